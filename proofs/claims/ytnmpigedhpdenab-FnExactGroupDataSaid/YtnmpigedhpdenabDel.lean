/-
  The walks of chapter 3: slices.Delete of one record.
-/
import Derived.Test.YtnmpigedhpdenabRecC
import Derived.Test.YtnmpigedhpdenabIns
import Derived.Deep.RegionLaw
import Derived.Lib.SliceRun
namespace Go.Proofs.Ytnmpigedhpdenab
open Go.RowKit
set_option maxRecDepth 100000

/-- Values laid over a list from place o on. -/
def layL : List Value → Nat → List Value → List Value
  | xs, _, [] => xs
  | xs, o, v :: r => layL (xs.set o v) (o + 1) r
theorem layL_len : ∀ (vs xs : List Value) (o : Nat), (layL xs o vs).length = xs.length
  | [], _, _ => rfl
  | v :: r, xs, o => by rw [layL, layL_len r, List.length_set]
theorem layL_get : ∀ (vs xs : List Value) (o t : Nat), o + vs.length ≤ xs.length → (layL xs o vs)[t]? = if o ≤ t ∧ t < o + vs.length then vs[t - o]? else xs[t]?
  | [], xs, o, t, _ => by rw [layL, if_neg (by simp)]
  | v :: r, xs, o, t, h => by
    simp only [List.length_cons] at h
    rw [layL, layL_get r (xs.set o v) (o + 1) t (by rw [List.length_set]; omega)]
    by_cases h0 : t = o
    · subst h0
      rw [if_neg (by omega), if_pos (by simp), List.getElem?_set, if_pos rfl, if_pos (by omega), Nat.sub_self]
      rfl
    · by_cases h1 : o + 1 ≤ t ∧ t < o + 1 + r.length
      · rw [if_pos h1, if_pos (by simp only [List.length_cons]; omega), show t - o = (t - (o + 1)) + 1 by omega, List.getElem?_cons_succ]
      · rw [if_neg h1, if_neg (by simp only [List.length_cons]; omega), List.getElem?_set, if_neg (Ne.symm h0)]
theorem own_setCells {base e size g n cap : Nat} : ∀ (vs xs : List Value) (o : Nat) {w : World}, w.ownsRow base e size (.slice (some ⟨g, 0, none⟩) n cap) n xs →
    (w.setCells g o vs).ownsRow base e size (.slice (some ⟨g, 0, none⟩) n cap) n (layL xs o vs) ∧ w.grownBy (w.setCells g o vs) (some g)
  | [], xs, o, w, h => ⟨h, World.grownBy.refl _ _⟩
  | v :: r, xs, o, w, h => by
    have h1 := h.stored o v
    have h2 := own_setCells r (xs.set o v) (o + 1) h1.1
    exact ⟨h2.1, h1.2.trans h2.2⟩
theorem own_cut {w : World} {base e size g n m cap : Nat} {xs : List Value} (h : w.ownsRow base e size (.slice (some ⟨g, 0, none⟩) n cap) n xs) (hm : m ≤ n) : w.ownsRow base e size (.slice (some ⟨g, 0, none⟩) m cap) m (xs.take (m * size)) := by
  have hms : m * size ≤ n * size := Nat.mul_le_mul_right _ hm
  rcases h.2 with ⟨h1, _⟩ | ⟨g', cap', cur, hv, hb, hg, h1, h2, h3, h4⟩
  · cases h1
  · injection hv with e1 e2 e3
    injection e1 with e1
    injection e1 with e1
    subst e1 e3
    refine ⟨by rw [List.length_take, h.1]; omega, Or.inr ⟨g, cap, cur, rfl, hb, hg, by omega, h2, h3, ?_⟩⟩
    rw [← h4, List.take_take, Nat.min_eq_left hms]
/-- The list without element i, in its cells. -/
theorem del_cells {T : List PR} {i : Nat} (hi : i < T.length) (z : List Value) (hz : z.length = 3) :
    (layL (layL (pC T) (i * 3) (pC (T.drop (i + 1)))) ((T.length - 1) * 3) z).take ((T.length - 1) * 3) = pC (T.take i ++ T.drop (i + 1)) := by
  have hd : (pC (T.drop (i + 1))).length = (T.length - (i + 1)) * 3 := by rw [pC_len, List.length_drop]
  apply List.ext_getElem?
  intro t
  by_cases ht : t < (T.length - 1) * 3
  · rw [List.getElem?_take_of_lt ht, layL_get _ _ _ _ (by rw [layL_len, pC_len, hz]; omega), if_neg (by omega), layL_get _ _ _ _ (by rw [hd, pC_len]; omega), pC_app]
    by_cases h1 : i * 3 ≤ t
    · rw [if_pos ⟨h1, by rw [hd]; omega⟩, List.getElem?_append_right (by rw [pC_len, List.length_take]; omega), pC_len, List.length_take, Nat.min_eq_left (by omega)]
    · rw [if_neg (by omega), List.getElem?_append_left (by rw [pC_len, List.length_take]; omega), pC_take, List.getElem?_take_of_lt (by omega)]
  · rw [List.getElem?_eq_none (by rw [List.length_take]; omega), List.getElem?_eq_none (by rw [pC_len, List.length_append, List.length_take, List.length_drop]; omega)]

theorem clearRec (w : World) (ty : TypeId) (g o c : Nat) (hc : ∀ j, j < 3 → (w.cell? ⟨g, o + j, none⟩).isSome = true) (hf : ∀ j, j < 3 → w.frozen? ⟨g, o + j, none⟩ = false) :
    (Builtin.clear_ #[71] ty #[.slice (some ⟨g, o, none⟩) 1 c]).run Try.prog w = .ok (.tuple #[]) (w.setCells g o [.int .i64 0, .int .i64 0, .slice none 0 0]) := by
  have hst := run_storeCells_cells (P := Try.prog) g o [.int .i64 0, .int .i64 0, .slice none 0 0] 0 w (by simpa using hc) (by simpa using hf) (by
    intro v hv
    simp only [List.mem_cons, List.not_mem_nil, or_false] at hv
    rcases hv with rfl | rfl | rfl <;> rfl)
  simp only [Nat.add_zero] at hst
  have hzc : (Builtin.zeroCells (Value.agg #[.int .i64 0, .int .i64 0, .slice none 0 0]).cells 1).toList = [.int .i64 0, .int .i64 0, .slice none 0 0] := by
    simp [Builtin.zeroCells, Value.cells]
    rfl
  simp [Builtin.clear_, run_underlying Try.underlying71, hzc, hst]

/-- What is left of the records. -/
def DlP (T : List PR) (i : Nat) (lo hi g cap : Nat) (w : World) (e : Ending) (w' : World) : Prop :=
  e = .returned (.slice (some ⟨g, 0, none⟩) (T.take i ++ T.drop (i + 1)).length cap) ∧ OwD w' lo hi 140 3 (.slice (some ⟨g, 0, none⟩) (T.take i ++ T.drop (i + 1)).length cap) (T.take i ++ T.drop (i + 1)) ∧ Off lo hi w w'
theorem del_len {T : List PR} {i : Nat} (hi : i < T.length) : (T.take i ++ T.drop (i + 1)).length = T.length - 1 := by
  rw [List.length_append, List.length_take, List.length_drop]; omega
theorem del_sub {T : List PR} {i : Nat} : ∀ q ∈ T.take i ++ T.drop (i + 1), q ∈ T := fun q hq => by
  rcases List.mem_append.1 hq with h | h
  · exact List.mem_of_mem_take h
  · exact List.mem_of_mem_drop h
theorem del_subl (T : List PR) (i : Nat) : (T.take i ++ T.drop (i + 1)).Sublist T := by
  conv => rhs; rw [← List.take_append_drop i T]
  refine List.Sublist.append (List.Sublist.refl _) ?_
  rw [← List.drop_drop]
  exact List.drop_sublist 1 _
theorem del_own {T : List PR} {i lo hi g cap : Nat} {w W : World} (hi' : i < T.length) (ho : OwD w lo hi 140 3 (.slice (some ⟨g, 0, none⟩) T.length cap) T) (hW : W = (w.drew.setCells g (i * 3) (pC (T.drop (i + 1)))).setCells g ((T.length - 1) * 3) [.int .i64 0, .int .i64 0, .slice none 0 0]) :
    OwD W lo hi 140 3 (.slice (some ⟨g, 0, none⟩) (T.take i ++ T.drop (i + 1)).length cap) (T.take i ++ T.drop (i + 1)) ∧ Off lo hi w W := by
  have hd : w.drew.ownsRow lo 140 3 (.slice (some ⟨g, 0, none⟩) T.length cap) T.length (pC T) := own_below ho.1.1 ((Below.refl _ _).drew)
  have h1 := own_setCells (pC (T.drop (i + 1))) _ (i * 3) hd
  have h2 := own_setCells [.int .i64 0, .int .i64 0, .slice none 0 0] _ ((T.length - 1) * 3) h1.1
  rw [← hW] at h2
  have h3 := own_cut h2.1 (show T.length - 1 ≤ T.length by omega)
  rw [del_cells hi' _ rfl] at h3
  have hg : w.grownBy W (some g) := (show w.grownBy w.drew (some g) from ⟨rfl, rfl, rfl, Nat.le_refl _, fun _ _ _ => rfl⟩).trans (h1.2.trans h2.2)
  have hin := ho.1.2 g rfl
  have hkv := ho.2.1.kept hg (fun q hq => ho.2.2 q hq g rfl)
  refine ⟨⟨⟨by rw [del_len hi']; exact h3, fun k hk => ho.1.2 k hk⟩, ⟨fun q hq => hkv.1 q (del_sub q hq), ?_⟩, fun q hq k hk => ho.2.2 q (del_sub q hq) k hk⟩, Off.of_grown hg (fun k hk => by injection hk with hk; omega)⟩
  exact hkv.2.sublist ((del_subl T i).filterMap _)

end Go.Proofs.Ytnmpigedhpdenab
