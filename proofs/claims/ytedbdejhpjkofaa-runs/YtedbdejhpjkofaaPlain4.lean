import Derived.Test.YtedbdejhpjkofaaPlain3
/- Plain functions: pairs, and what stands under keys. No Go, no program. -/
namespace Hd

/-- what stands under a key, by pairs -/
def ofPairs (l : List (Int × Int)) (k : Int) : Option Int := (l.find? (fun p => p.1 == k)).map (·.2)

/-- no key is told twice -/
def once (l : List (Int × Int)) : Prop := (l.map (·.1)).Nodup

theorem ofPairs_nil : ofPairs [] = fun _ => none := rfl

theorem ofPairs_none {l : List (Int × Int)} {k : Int} : ofPairs l k = none ↔ k ∉ l.map (·.1) := by
  unfold ofPairs
  rw [Option.map_eq_none_iff, List.find?_eq_none]
  simp only [beq_iff_eq, List.mem_map, not_exists, not_and]

theorem ofPairs_snoc (l : List (Int × Int)) (k v : Int) (h : ofPairs l k = none) : ofPairs (l ++ [(k, v)]) = upd (ofPairs l) k (some v) := by
  funext x
  unfold upd
  by_cases e : x = k
  · subst e
    rw [if_pos rfl]
    unfold ofPairs at h ⊢
    rw [List.find?_append]
    rw [Option.map_eq_none_iff] at h
    rw [h]
    simp
  · rw [if_neg e]
    unfold ofPairs
    rw [List.find?_append]
    have : [(k, v)].find? (fun p => p.1 == x) = none := by simp; omega
    rw [this]
    simp

theorem once_snoc (l : List (Int × Int)) (k v : Int) (h : once l) (hn : ofPairs l k = none) : once (l ++ [(k, v)]) := by
  unfold once at *
  rw [ofPairs_none] at hn
  rw [List.map_append, List.nodup_append]
  refine ⟨h, by simp, ?_⟩
  intro a ha b hb
  simp at hb
  subst hb
  intro e
  subst e
  exact hn ha

theorem not_once (l m : List (Int × Int)) (k v : Int) (h : ofPairs l k ≠ none) : ¬ once (l ++ (k, v) :: m) := by
  intro ho
  unfold once at ho
  rw [List.map_append, List.map_cons, List.nodup_append] at ho
  apply h
  rw [ofPairs_none]
  intro hm
  exact ho.2.2 k hm k (by simp) rfl

end Hd
