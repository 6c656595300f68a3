import Derived.Test.YtedbdejhpjkofaaR8
import Derived.Deep.Slices
namespace Go.Proofs.Ytedbdejhpjkofaa
open Go.RowKit Go.Maps
set_option linter.unusedVariables false
set_option linter.unusedSimpArgs false

theorem add_block (a : Addr) (j : Nat) : (a.add j).block = a.block := by unfold Addr.add; split <;> rfl

theorem addr_two (a : Addr) (i j : Nat) : (a.add i).add j = a.add (i + j) := Go.Deep.add_add a i j

theorem addr_one (x : Addr) : x.add 1 = ⟨x.block, x.off + 1, none⟩ := by simp [Addr.add]

/-- the pairs lie behind a slice's address, wherever in its block it stands -/
def HoldsA (w : World) (ao : Option Addr) (Ps : List (Int × Int)) : Prop :=
  ∀ i (h : i < Ps.length), ∃ a, ao = some a ∧ a.block < w.heap.size ∧ w.cell? (a.add (i * 2)) = some (.int .i64 (Ps[i]).1) ∧ w.cell? (a.add (i * 2 + 1)) = some (.int .i64 (Ps[i]).2) ∧ wf (Ps[i]).1 ∧ wf (Ps[i]).2

theorem HoldsP.toA {w : World} {ao : Option Addr} {Ps : List (Int × Int)} (h : HoldsP w ao Ps) : HoldsA w ao Ps := by
  intro i hi
  obtain ⟨g, h1, h2, h3, h4, h5⟩ := h i hi
  exact ⟨⟨g, 0, none⟩, h1, h2, by rw [add_at]; exact h3, by rw [add_at]; exact h4, h5⟩

theorem holdsA_below {w w' : World} {B : Nat} {ao : Option Addr} {Ps : List (Int × Int)} (h : HoldsA w ao Ps) (hl : ∀ i, i < Ps.length → ∀ a, ao = some a → a.block < B) (hb : Below B w w') : HoldsA w' ao Ps := by
  intro i hi
  obtain ⟨a, h1, h2, h3, h4, h5⟩ := h i hi
  have hg := hl i hi a h1
  exact ⟨a, h1, Nat.lt_of_lt_of_le h2 hb.size, (hb.cell (p := a.add (i * 2)) (by rw [add_block]; exact hg)).trans h3, (hb.cell (p := a.add (i * 2 + 1)) (by rw [add_block]; exact hg)).trans h4, h5⟩

theorem HoldsA.low {w : World} {ao : Option Addr} {Ps : List (Int × Int)} (h : HoldsA w ao Ps) : ∀ i, i < Ps.length → ∀ a, ao = some a → a.block < w.heap.size := by
  intro i hi a e
  obtain ⟨a', e', h', _⟩ := h i hi
  rw [e] at e'
  injection e' with e'
  rw [e']
  exact h'

theorem HoldsA.alloc {w : World} {ao : Option Addr} {Ps : List (Int × Int)} (h : HoldsA w ao Ps) (o : Obj) : HoldsA (w.alloc o) ao Ps := holdsA_below h h.low ((Below.refl _ w).alloc (Nat.le_refl _) o)

theorem wfA_of {w : World} {ao : Option Addr} {Ps : List (Int × Int)} (h : HoldsA w ao Ps) : ∀ k v, Hd.ofPairs Ps k = some v → wf v := by
  intro k v hk
  unfold Hd.ofPairs at hk
  rw [Option.map_eq_some_iff] at hk
  obtain ⟨p, hp, rfl⟩ := hk
  have hm := List.mem_of_find?_eq_some hp
  obtain ⟨i, hi, rfl⟩ := List.getElem_of_mem hm
  obtain ⟨g, _, _, _, _, _, h2⟩ := h i hi
  exact h2

set_option maxRecDepth 100000 in
set_option maxHeartbeats 1000000 in
theorem byKeyA_any (ao : Option Addr) (cap : Nat) (Ps : List (Int × Int)) (w : World) (hP : HoldsA w ao Ps) (hn : Ps.length ≤ 8796093022208) :
    Calls Try.prog 22 #[.slice ao Ps.length cap] w fun e w' => ByEnd w Ps e w' := by
  have hmm := run_makeMapS
  go_enter Try.func22, Try.ntmps22
  go_wp2
  go_loopw [14] (fun j wr => ∃ (k : Nat) (D : DU), k ≤ Ps.length ∧ j = .int .i64 k ∧ ownI wr w.heap.size k D ∧ VI D (Hd.ofPairs (Ps.take k)) ∧ Hd.once (Ps.take k) ∧ Below w.heap.size w wr) (fun j _ => Ps.length - (intOf j).toNat)
  case atStart => exact ⟨0, _, Nat.zero_le _, rfl, World.ownsMap_made _ _ _ _, by rw [List.take_zero, Hd.ofPairs_nil]; exact VI_empty, by rw [List.take_zero]; exact List.nodup_nil, (Below.refl _ _).alloc (Nat.le_refl _) _⟩
  case round =>
    obtain ⟨k, D, hk, rfl, hown, hV, ho, hbel⟩ := hrel
    by_cases hlt : k < Ps.length
    · obtain ⟨a, rfl, hg, d0, d1, w0, w1⟩ := hP k hlt
      have c0 := (hbel.cell (p := a.add (k * 2)) (by rw [add_block]; exact hg)).trans d0
      have c1 : wr.cell? ⟨(a.add (k * 2)).block, (a.add (k * 2)).off + 1, none⟩ = some (.int .i64 (Ps[k]).2) := by rw [← addr_one, addr_two]; exact (hbel.cell (p := a.add (k * 2 + 1)) (by rw [add_block]; exact hg)).trans d1
      have HP : Hid (HoldsA w (some a) Ps) := hP
      have HO : Hid (Hd.once (Ps.take k)) := ho
      have Htk : Hid (Ps.take (k + 1) = Ps.take k ++ [(Ps[k].1, Ps[k].2)]) := take_add Ps k hlt
      have Hall : Hid (Ps = Ps.take k ++ (Ps[k].1, Ps[k].2) :: Ps.drop (k + 1)) := by
        have := (List.take_append_drop k Ps).symm
        rw [List.drop_eq_getElem_cons hlt] at this
        exact this
      have hsz := hbel.size
      clear d0 d1 hP ho
      generalize (Ps[k]).1 = key at *
      generalize (Ps[k]).2 = val at *
      have hlk := fun (o : Oper) => o
      cases hf : Hd.ofPairs (Ps.take k) key with
      | some v =>
        have HN : Hid (¬ Hd.once Ps) := by
          have := Hd.not_once (Ps.take k) (Ps.drop (k + 1)) key val (by rw [hf]; simp)
          rw [← Hall.out] at this
          exact this
        have Hf : Hid (Hd.ofPairs (Ps.take k) key = some v) := hf
        clear hf hlk
        go_wp2_with (at_lookup; refine wpList_look_int _ rfl _ _ rfl w.heap.size k D _ hV rfl (hown.alloc _) key w0 rfl ?_; rw [Hf.out]; simp only [Option.getD_some, Option.isSome_some])
        go_ret2
        exact ⟨fun h => absurd h HN.out, fun _ => rfl, hbel.alloc hsz _⟩
      | none =>
        have Hf : Hid (Hd.ofPairs (Ps.take k) key = none) := hf
        clear hf hlk
        go_wp2_with (first
          | (at_lookup; refine wpList_look_int _ rfl _ _ rfl w.heap.size k D _ hV rfl (hown.alloc _) key w0 rfl ?_; rw [Hf.out]; simp only [Option.getD_none, Option.isSome_none])
          | (at_mapUpdate; refine wpList_mapUpdate_own _ rfl _ _ _ 56 rfl 3 3 law3 Try.underlying56 (plainElem Try.prog 3) w.heap.size k D rfl (hown.alloc _) (by unfold maxLen; omega) (.int .i64 key) (.int .i64 val) (kL key) rfl rfl (keyOf_int_mk Try.underlying3 w0) _ [] (plainElem_int Try.underlying3 w1) ?_; intro w2 hown2 hgrow2))
        go_roundw
        case rel =>
          refine ⟨k + 1, _, by omega, by go_num, hown2, ?_, ?_, (hbel.alloc hsz _).grown hgrow2 (by simp; omega) (fun j hj => by cases hj; exact Nat.le_refl _)⟩
          · rw [Htk.out, Hd.ofPairs_snoc _ _ _ Hf.out]
            exact VI_put hV (World.ownsMap.isMap hown) key val w0
          · rw [Htk.out]
            exact Hd.once_snoc _ _ _ HO.out Hf.out
        case measure => simp [intOf]; omega
    · go_wp2
      go_ret2
      have e : Ps.take k = Ps := List.take_of_length_le (by omega)
      rw [e] at hV ho
      have e2 : k = Ps.length := by omega
      rw [e2] at hown
      exact ⟨fun _ => ⟨rfl, D, hown, hV⟩, fun h => absurd ho h, hbel⟩

end Go.Proofs.Ytedbdejhpjkofaa
