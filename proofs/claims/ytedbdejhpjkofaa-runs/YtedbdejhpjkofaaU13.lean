import Derived.Test.YtedbdejhpjkofaaU12
namespace Go.Proofs.Ytedbdejhpjkofaa
open Go.RowKit Go.Maps
set_option linter.unusedVariables false
set_option linter.unusedSimpArgs false

/-- the number of 64 bits that a number is in a code -/
def nn (a : Int) : Nat := (a % 18446744073709551616).toNat

theorem nn_lt (a : Int) : nn a < 18446744073709551616 := by
  unfold nn
  have h0 : 0 ≤ a % 18446744073709551616 := Int.emod_nonneg _ (by decide)
  have h1 : a % 18446744073709551616 < 18446744073709551616 := Int.emod_lt_of_pos _ (by decide)
  omega

theorem wf_bd {a : Int} (h : wf a) : -9223372036854775808 ≤ a ∧ a ≤ 9223372036854775807 := by
  unfold wf at h
  simp only [Lit.wf, IntKind.min, IntKind.max, IntKind.signed, IntKind.bits, Bool.and_eq_true, decide_eq_true_eq, if_true] at h
  omega

theorem w64_nn {a : Int} (h : wf a) : Hd.w64 ((nn a : Nat) : Int) = a := by
  have := wf_bd h
  unfold Hd.w64 nn
  have h0 : 0 ≤ a % 18446744073709551616 := Int.emod_nonneg _ (by decide)
  rw [Int.toNat_of_nonneg h0]
  omega

/-- what Run answers, by the instructions that the code says -/
theorem Run_at (t : ByteArray) (Is : List Hd.Ins) (ao : Option Addr) (cap : Nat) (Ps : List (Int × Int)) (w : World) (ht : t.data.toList = Is.flatMap Hd.encI) (hpl : ∀ i, i ∈ Is → Hd.Plain i) (hl : Is.length ≤ 256) (hw : Hd.within Is = true) (hts : t.size ≤ maxLen)
    (hP : HoldsP w ao Ps) (hn : Ps.length ≤ 8796093021952) (ho : Hd.once Ps) (st : Int) (T : List Int) (Lp : List (Int × Int)) (sf : Hd.St) (hr : Hd.runAll (Hd.ofPairs Ps) Is = (st, sf)) (hT : sf.T = T) (hL : ∀ ks, KeysOf (Hd.lookS (Hd.ofPairs Ps) sf.W) ks → standing (Hd.lookS (Hd.ofPairs Ps) sf.W) ks = Lp) :
    Calls Try.prog 15 #[.string t, .slice ao Ps.length cap] w fun e w' => ∃ (to lo : Option Addr) (tc lc : Nat), e = .returned (.tuple #[.agg #[.int .i64 st, .slice to T.length tc], .slice lo Lp.length lc, .int .i64 0]) ∧
      w'.ownsRow w.heap.size 3 1 (.slice to T.length tc) T.length (T.map (Value.int .i64)) ∧ w'.ownsRow w.heap.size 44 2 (.slice lo Lp.length lc) Lp.length (pairCells Lp) ∧ Below w.heap.size w w' := by
  obtain ⟨h1, h2⟩ := Hd.prog_enc Is hpl hl hw
  rw [← ht] at h1 h2
  refine (Run_yes t hts ao cap Ps w hP hn ho _ h1 _ rfl Is h2.symm st sf hr).mono ?_
  rintro e w' ⟨⟨tv, v, ks, rfl, hks, hv, htv, _, _⟩, hb⟩
  have e1 := hL ks hks
  have e2 : ks.length = Lp.length := by rw [← e1]; simp [standing]
  rw [e1, e2] at hv
  rw [hT] at htv
  obtain ⟨to, tc, rfl⟩ := own_form htv
  obtain ⟨lo, lc, rfl⟩ := own_form hv
  exact ⟨to, lo, tc, lc, rfl, htv, hv, hb⟩

theorem keys_none {f : Int → Option Int} {ks : List Int} (h : KeysOf f ks) (hf : ∀ k, f k = none) : ks = [] := by
  cases ks with
  | nil => rfl
  | cons k r =>
    have := (h.mem k).1 (by simp)
    rw [hf] at this
    simp at this

theorem keys_one {f : Int → Option Int} {ks : List Int} {key : Int} (h : KeysOf f ks) (hk : wf key) (hf : ∀ k, (f k).isSome = true ↔ k = key) : ks = [key] := by
  have hm : ∀ k, k ∈ ks ↔ k = key := by
    intro k
    rw [h.mem k, hf k]
    constructor
    · exact fun x => x.2
    · rintro rfl; exact ⟨hk, rfl⟩
  cases ks with
  | nil => have := (hm key).2 rfl; simp at this
  | cons k r =>
    have hk1 := (hm k).1 (by simp)
    subst hk1
    cases r with
    | nil => rfl
    | cons k2 r2 =>
      have hk2 := (hm k2).1 (by simp)
      subst hk2
      have := h.up
      simp at this

def sumsA (A B : Nat) : List Hd.Ins := [⟨1, 0, 0, 0, A⟩, ⟨1, 1, 0, 0, B⟩, ⟨6, 2, 0, 1, 0⟩, ⟨10, 2, 0, 0, 0⟩, ⟨7, 2, 0, 1, 0⟩, ⟨10, 2, 0, 0, 0⟩, ⟨8, 2, 0, 1, 0⟩, ⟨10, 2, 0, 0, 0⟩, ⟨9, 0, 1, 0, 1⟩, ⟨10, 0, 0, 0, 0⟩, ⟨10, 1, 0, 0, 0⟩]

def rs8 (a b c : Int) : List Int := [a, b, c, 0, 0, 0, 0, 0]

theorem run_sumsA (a b : Int) (ha : wf a) (hb : wf b) (S : Int → Option Int) :
    ∃ sf, Hd.runAll S (sumsA (nn a) (nn b)) = (2, sf) ∧ sf.T = [Hd.w64 (a + b), Hd.w64 (a - b), Hd.w64 (a * b)] ++ (if a < b then [] else [a]) ++ [b] ∧ sf.W = fun _ => none := by
  have e1 := w64_nn ha
  have e2 := w64_nn hb
  unfold Hd.runAll sumsA
  by_cases h : a < b
  · refine ⟨⟨rs8 a b (Hd.w64 (a * b)), fun _ => none, [Hd.w64 (a + b), Hd.w64 (a - b), Hd.w64 (a * b), b], []⟩, ?_, ?_, rfl⟩
    · simp [Hd.runS, Hd.stepS, e1, e2, h, rs8]
    · rw [if_pos h]; rfl
  · refine ⟨⟨rs8 a b (Hd.w64 (a * b)), fun _ => none, [Hd.w64 (a + b), Hd.w64 (a - b), Hd.w64 (a * b), a, b], []⟩, ?_, ?_, rfl⟩
    · simp [Hd.runS, Hd.stepS, e1, e2, h, rs8]
    · rw [if_neg h]; rfl

def sumsU (A B K : Nat) : List Hd.Ins := [⟨1, 0, 0, 0, A⟩, ⟨1, 1, 0, 0, B⟩, ⟨1, 3, 0, 0, K⟩, ⟨4, 3, 0, 0, 0⟩, ⟨2, 4, 3, 0, 0⟩, ⟨10, 4, 0, 0, 0⟩, ⟨3, 4, 3, 0, 0⟩, ⟨10, 4, 0, 0, 0⟩, ⟨4, 3, 1, 0, 0⟩, ⟨5, 3, 0, 0, 0⟩, ⟨3, 4, 3, 0, 0⟩, ⟨10, 4, 0, 0, 0⟩, ⟨2, 4, 3, 0, 0⟩, ⟨10, 4, 0, 0, 0⟩, ⟨4, 3, 1, 0, 0⟩]

theorem run_one (S : Int → Option Int) (Is : List Hd.Ins) (f p : Nat) (s : Hd.St) (i : Hd.Ins) (h : Is[p]? = some i) (h1 : i.kind ≠ 11) (h2 : i.kind ≠ 9) : Hd.runS S Is (f + 1) p s = Hd.runS S Is f (p + 1) (Hd.stepS S i s) := by
  obtain ⟨hp, he⟩ := List.getElem?_eq_some_iff.1 h
  subst he
  exact Hd.run_step S Is f p s hp h1 h2
theorem st1 (S : Int → Option Int) (a b c n : Nat) (rs : List Int) (W : Int → Option (Option Int)) (T R : List Int) : Hd.stepS S ⟨1, a, b, c, n⟩ ⟨rs, W, T, R⟩ = ⟨rs.set a (Hd.w64 n), W, T, R⟩ := rfl
theorem st2 (S : Int → Option Int) (a b c n : Nat) (rs : List Int) (W : Int → Option (Option Int)) (T R : List Int) : Hd.stepS S ⟨2, a, b, c, n⟩ ⟨rs, W, T, R⟩ = ⟨rs.set a ((Hd.lookS S W (rs.getD b 0)).getD 0), W, T, R ++ [rs.getD b 0]⟩ := rfl
theorem st3 (S : Int → Option Int) (a b c n : Nat) (rs : List Int) (W : Int → Option (Option Int)) (T R : List Int) : Hd.stepS S ⟨3, a, b, c, n⟩ ⟨rs, W, T, R⟩ = ⟨rs.set a (if (Hd.lookS S W (rs.getD b 0)).isSome then 1 else 0), W, T, R ++ [rs.getD b 0]⟩ := rfl
theorem st4 (S : Int → Option Int) (a b c n : Nat) (rs : List Int) (W : Int → Option (Option Int)) (T R : List Int) : Hd.stepS S ⟨4, a, b, c, n⟩ ⟨rs, W, T, R⟩ = ⟨rs, Hd.upd W (rs.getD a 0) (some (some (rs.getD b 0))), T, R⟩ := rfl
theorem st5 (S : Int → Option Int) (a b c n : Nat) (rs : List Int) (W : Int → Option (Option Int)) (T R : List Int) : Hd.stepS S ⟨5, a, b, c, n⟩ ⟨rs, W, T, R⟩ = ⟨rs, Hd.upd W (rs.getD a 0) (some none), T, R⟩ := rfl
theorem st10 (S : Int → Option Int) (a b c n : Nat) (rs : List Int) (W : Int → Option (Option Int)) (T R : List Int) : Hd.stepS S ⟨10, a, b, c, n⟩ ⟨rs, W, T, R⟩ = ⟨rs, W, T ++ [rs.getD a 0], R⟩ := rfl
theorem look_same (S : Int → Option Int) (W : Int → Option (Option Int)) (k : Int) (c : Option Int) : Hd.lookS S (Hd.upd W k (some c)) k = c := by simp [Hd.lookS, Hd.upd]

theorem run_pre (S : Int → Option Int) (Is : List Hd.Ins) (A B K f : Nat) (a b key : Int) (e1 : Hd.w64 A = a) (e2 : Hd.w64 B = b) (e3 : Hd.w64 K = key) (h0 : Is[0]? = some ⟨1, 0, 0, 0, A⟩) (h1 : Is[1]? = some ⟨1, 1, 0, 0, B⟩) (h2 : Is[2]? = some ⟨1, 3, 0, 0, K⟩) (h3 : Is[3]? = some ⟨4, 3, 0, 0, 0⟩) (h4 : Is[4]? = some ⟨2, 4, 3, 0, 0⟩) (h5 : Is[5]? = some ⟨10, 4, 0, 0, 0⟩) (h6 : Is[6]? = some ⟨3, 4, 3, 0, 0⟩) (h7 : Is[7]? = some ⟨10, 4, 0, 0, 0⟩) (h8 : Is[8]? = some ⟨4, 3, 1, 0, 0⟩) (h9 : Is[9]? = some ⟨5, 3, 0, 0, 0⟩) (h10 : Is[10]? = some ⟨3, 4, 3, 0, 0⟩) (h11 : Is[11]? = some ⟨10, 4, 0, 0, 0⟩) (h12 : Is[12]? = some ⟨2, 4, 3, 0, 0⟩) (h13 : Is[13]? = some ⟨10, 4, 0, 0, 0⟩) (h14 : Is[14]? = some ⟨4, 3, 1, 0, 0⟩) :
    Hd.runS S Is (f + 15) 0 ⟨[0, 0, 0, 0, 0, 0, 0, 0], (fun _ => none), [], []⟩ = Hd.runS S Is f 15 ⟨[a, b, 0, key, 0, 0, 0, 0], (Hd.upd (Hd.upd (Hd.upd (Hd.upd (fun _ => none) key (some (some a))) key (some (some b))) key (some none)) key (some (some b))), [a, 1, 0, 0], [key, key, key, key]⟩ := by
  have s0 : Hd.runS S Is (f + 15) 0 ⟨[0, 0, 0, 0, 0, 0, 0, 0], (fun _ => none), [], []⟩ = Hd.runS S Is (f + 14) 1 ⟨[a, 0, 0, 0, 0, 0, 0, 0], (fun _ => none), [], []⟩ := by rw [run_one S Is (f + 14) 0 _ _ h0 (by simp) (by simp), st1, e1]; rfl
  have s1 : Hd.runS S Is (f + 14) 1 ⟨[a, 0, 0, 0, 0, 0, 0, 0], (fun _ => none), [], []⟩ = Hd.runS S Is (f + 13) 2 ⟨[a, b, 0, 0, 0, 0, 0, 0], (fun _ => none), [], []⟩ := by rw [run_one S Is (f + 13) 1 _ _ h1 (by simp) (by simp), st1, e2]; rfl
  have s2 : Hd.runS S Is (f + 13) 2 ⟨[a, b, 0, 0, 0, 0, 0, 0], (fun _ => none), [], []⟩ = Hd.runS S Is (f + 12) 3 ⟨[a, b, 0, key, 0, 0, 0, 0], (fun _ => none), [], []⟩ := by rw [run_one S Is (f + 12) 2 _ _ h2 (by simp) (by simp), st1, e3]; rfl
  have s3 : Hd.runS S Is (f + 12) 3 ⟨[a, b, 0, key, 0, 0, 0, 0], (fun _ => none), [], []⟩ = Hd.runS S Is (f + 11) 4 ⟨[a, b, 0, key, 0, 0, 0, 0], (Hd.upd (fun _ => none) key (some (some a))), [], []⟩ := by rw [run_one S Is (f + 11) 3 _ _ h3 (by decide) (by decide), st4]; rfl
  have s4 : Hd.runS S Is (f + 11) 4 ⟨[a, b, 0, key, 0, 0, 0, 0], (Hd.upd (fun _ => none) key (some (some a))), [], []⟩ = Hd.runS S Is (f + 10) 5 ⟨[a, b, 0, key, a, 0, 0, 0], (Hd.upd (fun _ => none) key (some (some a))), [], [key]⟩ := by rw [run_one S Is (f + 10) 4 _ _ h4 (by decide) (by decide), st2]; simp only [List.getD_cons_succ, List.getD_cons_zero, look_same]; rfl
  have s5 : Hd.runS S Is (f + 10) 5 ⟨[a, b, 0, key, a, 0, 0, 0], (Hd.upd (fun _ => none) key (some (some a))), [], [key]⟩ = Hd.runS S Is (f + 9) 6 ⟨[a, b, 0, key, a, 0, 0, 0], (Hd.upd (fun _ => none) key (some (some a))), [a], [key]⟩ := by rw [run_one S Is (f + 9) 5 _ _ h5 (by simp) (by simp), st10]; rfl
  have s6 : Hd.runS S Is (f + 9) 6 ⟨[a, b, 0, key, a, 0, 0, 0], (Hd.upd (fun _ => none) key (some (some a))), [a], [key]⟩ = Hd.runS S Is (f + 8) 7 ⟨[a, b, 0, key, 1, 0, 0, 0], (Hd.upd (fun _ => none) key (some (some a))), [a], [key, key]⟩ := by rw [run_one S Is (f + 8) 6 _ _ h6 (by decide) (by decide), st3]; simp only [List.getD_cons_succ, List.getD_cons_zero, look_same]; rfl
  have s7 : Hd.runS S Is (f + 8) 7 ⟨[a, b, 0, key, 1, 0, 0, 0], (Hd.upd (fun _ => none) key (some (some a))), [a], [key, key]⟩ = Hd.runS S Is (f + 7) 8 ⟨[a, b, 0, key, 1, 0, 0, 0], (Hd.upd (fun _ => none) key (some (some a))), [a, 1], [key, key]⟩ := by rw [run_one S Is (f + 7) 7 _ _ h7 (by simp) (by simp), st10]; rfl
  have s8 : Hd.runS S Is (f + 7) 8 ⟨[a, b, 0, key, 1, 0, 0, 0], (Hd.upd (fun _ => none) key (some (some a))), [a, 1], [key, key]⟩ = Hd.runS S Is (f + 6) 9 ⟨[a, b, 0, key, 1, 0, 0, 0], (Hd.upd (Hd.upd (fun _ => none) key (some (some a))) key (some (some b))), [a, 1], [key, key]⟩ := by rw [run_one S Is (f + 6) 8 _ _ h8 (by decide) (by decide), st4]; rfl
  have s9 : Hd.runS S Is (f + 6) 9 ⟨[a, b, 0, key, 1, 0, 0, 0], (Hd.upd (Hd.upd (fun _ => none) key (some (some a))) key (some (some b))), [a, 1], [key, key]⟩ = Hd.runS S Is (f + 5) 10 ⟨[a, b, 0, key, 1, 0, 0, 0], (Hd.upd (Hd.upd (Hd.upd (fun _ => none) key (some (some a))) key (some (some b))) key (some none)), [a, 1], [key, key]⟩ := by rw [run_one S Is (f + 5) 9 _ _ h9 (by decide) (by decide), st5]; rfl
  have s10 : Hd.runS S Is (f + 5) 10 ⟨[a, b, 0, key, 1, 0, 0, 0], (Hd.upd (Hd.upd (Hd.upd (fun _ => none) key (some (some a))) key (some (some b))) key (some none)), [a, 1], [key, key]⟩ = Hd.runS S Is (f + 4) 11 ⟨[a, b, 0, key, 0, 0, 0, 0], (Hd.upd (Hd.upd (Hd.upd (fun _ => none) key (some (some a))) key (some (some b))) key (some none)), [a, 1], [key, key, key]⟩ := by rw [run_one S Is (f + 4) 10 _ _ h10 (by decide) (by decide), st3]; simp only [List.getD_cons_succ, List.getD_cons_zero, look_same]; rfl
  have s11 : Hd.runS S Is (f + 4) 11 ⟨[a, b, 0, key, 0, 0, 0, 0], (Hd.upd (Hd.upd (Hd.upd (fun _ => none) key (some (some a))) key (some (some b))) key (some none)), [a, 1], [key, key, key]⟩ = Hd.runS S Is (f + 3) 12 ⟨[a, b, 0, key, 0, 0, 0, 0], (Hd.upd (Hd.upd (Hd.upd (fun _ => none) key (some (some a))) key (some (some b))) key (some none)), [a, 1, 0], [key, key, key]⟩ := by rw [run_one S Is (f + 3) 11 _ _ h11 (by simp) (by simp), st10]; rfl
  have s12 : Hd.runS S Is (f + 3) 12 ⟨[a, b, 0, key, 0, 0, 0, 0], (Hd.upd (Hd.upd (Hd.upd (fun _ => none) key (some (some a))) key (some (some b))) key (some none)), [a, 1, 0], [key, key, key]⟩ = Hd.runS S Is (f + 2) 13 ⟨[a, b, 0, key, 0, 0, 0, 0], (Hd.upd (Hd.upd (Hd.upd (fun _ => none) key (some (some a))) key (some (some b))) key (some none)), [a, 1, 0], [key, key, key, key]⟩ := by rw [run_one S Is (f + 2) 12 _ _ h12 (by decide) (by decide), st2]; simp only [List.getD_cons_succ, List.getD_cons_zero, look_same]; rfl
  have s13 : Hd.runS S Is (f + 2) 13 ⟨[a, b, 0, key, 0, 0, 0, 0], (Hd.upd (Hd.upd (Hd.upd (fun _ => none) key (some (some a))) key (some (some b))) key (some none)), [a, 1, 0], [key, key, key, key]⟩ = Hd.runS S Is (f + 1) 14 ⟨[a, b, 0, key, 0, 0, 0, 0], (Hd.upd (Hd.upd (Hd.upd (fun _ => none) key (some (some a))) key (some (some b))) key (some none)), [a, 1, 0, 0], [key, key, key, key]⟩ := by rw [run_one S Is (f + 1) 13 _ _ h13 (by simp) (by simp), st10]; rfl
  have s14 : Hd.runS S Is (f + 1) 14 ⟨[a, b, 0, key, 0, 0, 0, 0], (Hd.upd (Hd.upd (Hd.upd (fun _ => none) key (some (some a))) key (some (some b))) key (some none)), [a, 1, 0, 0], [key, key, key, key]⟩ = Hd.runS S Is (f + 0) 15 ⟨[a, b, 0, key, 0, 0, 0, 0], (Hd.upd (Hd.upd (Hd.upd (Hd.upd (fun _ => none) key (some (some a))) key (some (some b))) key (some none)) key (some (some b))), [a, 1, 0, 0], [key, key, key, key]⟩ := by rw [run_one S Is (f + 0) 14 _ _ h14 (by decide) (by decide), st4]; rfl
  rw [s0, s1, s2, s3, s4, s5, s6, s7, s8, s9, s10, s11, s12, s13, s14]
  rfl

theorem run_sumsU (a b key : Int) (ha : wf a) (hb : wf b) (hk : wf key) (S : Int → Option Int) :
    ∃ sf, Hd.runAll S (sumsU (nn a) (nn b) (nn key)) = (2, sf) ∧ sf.T = [a, 1, 0, 0] ∧ ∀ k, sf.W k = if k = key then some (some b) else none := by
  have h := run_pre S (sumsU (nn a) (nn b) (nn key)) (nn a) (nn b) (nn key) 0 a b key (w64_nn ha) (w64_nn hb) (w64_nn hk) rfl rfl rfl rfl rfl rfl rfl rfl rfl rfl rfl rfl rfl rfl rfl
  refine ⟨_, h, rfl, ?_⟩
  intro k
  by_cases h : k = key <;> simp [Hd.upd, h]

theorem run_sumsX (a b key : Int) (ha : wf a) (hb : wf b) (hk : wf key) (S : Int → Option Int) :
    ∃ sf, Hd.runAll S (sumsU (nn a) (nn b) (nn key) ++ [⟨11, 0, 0, 0, 0⟩]) = (3, sf) ∧ sf.T = [a, 1, 0, 0] ∧ sf.W = fun _ => none := by
  have h := run_pre S (sumsU (nn a) (nn b) (nn key) ++ [⟨11, 0, 0, 0, 0⟩]) (nn a) (nn b) (nn key) 1 a b key (w64_nn ha) (w64_nn hb) (w64_nn hk) rfl rfl rfl rfl rfl rfl rfl rfl rfl rfl rfl rfl rfl rfl rfl
  have h2 := h.trans (Hd.run_abort S (sumsU (nn a) (nn b) (nn key) ++ [⟨11, 0, 0, 0, 0⟩]) 0 15 _ (by simp [sumsU]) rfl)
  exact ⟨_, h2, rfl, rfl⟩

def shownI : List Hd.Ins := [⟨1, 0, 0, 0, 7⟩, ⟨1, 1, 0, 0, 5⟩, ⟨2, 2, 0, 0, 0⟩, ⟨6, 2, 2, 1, 0⟩, ⟨4, 0, 2, 0, 0⟩, ⟨10, 2, 0, 0, 0⟩]

theorem w64_7 : Hd.w64 7 = 7 := by unfold Hd.w64; omega
theorem w64_5 : Hd.w64 5 = 5 := by unfold Hd.w64; omega
theorem w64_15 : Hd.w64 15 = 15 := by unfold Hd.w64; omega

theorem run_shown : ∃ sf, Hd.runAll (Hd.ofPairs [(7, 10)]) shownI = (2, sf) ∧ sf.T = [15] ∧ ∀ k, sf.W k = if k = 7 then some (some 15) else none := by
  unfold Hd.runAll shownI
  refine ⟨⟨[7, 5, 15, 0, 0, 0, 0, 0], Hd.upd (fun _ => none) 7 (some (some 15)), [15], [7]⟩, ?_, rfl, ?_⟩
  · simp [Hd.runS, Hd.stepS, Hd.lookS, Hd.upd, w64_7, w64_5, w64_15, Hd.ofPairs]
  · intro k
    rfl

theorem plain_all (A B K : Nat) (hA : A < 18446744073709551616) (hB : B < 18446744073709551616) (hK : K < 18446744073709551616) : (∀ i, i ∈ sumsA A B → Hd.Plain i) ∧ (∀ i, i ∈ sumsU A B K ++ [⟨11, 0, 0, 0, 0⟩] → Hd.Plain i) ∧ (∀ i, i ∈ shownI → Hd.Plain i) := by
  refine ⟨?_, ?_, ?_⟩
  · intro i hi
    simp only [sumsA, List.mem_cons, List.not_mem_nil, or_false] at hi
    rcases hi with rfl | rfl | rfl | rfl | rfl | rfl | rfl | rfl | rfl | rfl | rfl <;> constructor <;> simp [Hd.regs, hA, hB]
  · intro i hi
    simp only [sumsU, List.mem_append, List.mem_cons, List.not_mem_nil, or_false] at hi
    rcases hi with (rfl | rfl | rfl | rfl | rfl | rfl | rfl | rfl | rfl | rfl | rfl | rfl | rfl | rfl | rfl) | rfl <;> constructor <;> simp [Hd.regs, hA, hB, hK]
  · intro i hi
    simp only [shownI, List.mem_cons, List.not_mem_nil, or_false] at hi
    rcases hi with rfl | rfl | rfl | rfl | rfl | rfl <;> constructor <;> simp [Hd.regs]

theorem within_A (A B : Nat) : Hd.within (sumsA A B) = true := by
  refine within_yes _ ?_
  intro i hi hk
  have hi2 : i < 11 := hi
  have hc : i = 0 ∨ i = 1 ∨ i = 2 ∨ i = 3 ∨ i = 4 ∨ i = 5 ∨ i = 6 ∨ i = 7 ∨ i = 8 ∨ i = 9 ∨ i = 10 := by omega
  rcases hc with rfl | rfl | rfl | rfl | rfl | rfl | rfl | rfl | rfl | rfl | rfl <;> simp [sumsA] at hk ⊢

theorem within_no9 (l : List Hd.Ins) (h : ∀ i, i ∈ l → i.kind ≠ 9) : Hd.within l = true := by
  refine within_yes _ ?_
  intro i hi hk
  exact absurd hk (h _ (List.getElem_mem hi))

theorem within_X (A B K : Nat) : Hd.within (sumsU A B K ++ [⟨11, 0, 0, 0, 0⟩]) = true := by
  refine within_no9 _ ?_
  intro i hi
  simp only [sumsU, List.mem_append, List.mem_cons, List.not_mem_nil, or_false] at hi
  rcases hi with (rfl | rfl | rfl | rfl | rfl | rfl | rfl | rfl | rfl | rfl | rfl | rfl | rfl | rfl | rfl) | rfl <;> simp
theorem within_U (A B K : Nat) : Hd.within (sumsU A B K) = true := by
  refine within_no9 _ ?_
  intro i hi
  simp only [sumsU, List.mem_cons, List.not_mem_nil, or_false] at hi
  rcases hi with rfl | rfl | rfl | rfl | rfl | rfl | rfl | rfl | rfl | rfl | rfl | rfl | rfl | rfl | rfl <;> simp
theorem within_S : Hd.within shownI = true := by
  refine within_no9 _ ?_
  intro i hi
  simp only [shownI, List.mem_cons, List.not_mem_nil, or_false] at hi
  rcases hi with rfl | rfl | rfl | rfl | rfl | rfl <;> decide

end Go.Proofs.Ytedbdejhpjkofaa
