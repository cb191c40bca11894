/-
  The walks of chapter 3: the model's sorted data.
-/
import Derived.Test.YtdakmdjcmjpogaaRecU
namespace Go.Proofs.Ytdakmdjcmjpogaa
open Go.RowKit
set_option maxRecDepth 100000

/-- Records that the model lays: their row, and where their values are read. -/
def InsW (w : World) (lo : Nat) (v : Value) (T : List PR) : Prop :=
  (∀ k, v.ownBlock = some k → lo ≤ k ∧ k < w.heap.size) ∧ ∀ q ∈ T, Rd w q.x (iC q.L) ∧ q.L.length ≤ 1048576 ∧ ∀ b off, q.x = some ⟨b, off, none⟩ → lo ≤ b ∧ b < w.heap.size ∧ v.ownBlock ≠ some b
theorem InsW.below {w w1 : World} {lo : Nat} {v : Value} {T : List PR} (h : InsW w lo v T) (hb : Below w.heap.size w w1) : InsW w1 lo v T :=
  ⟨fun k hk => ⟨(h.1 k hk).1, Nat.lt_of_lt_of_le (h.1 k hk).2 hb.size⟩, fun q hq => ⟨(h.2 q hq).1.below hb, (h.2 q hq).2.1, fun b off e => ⟨((h.2 q hq).2.2 b off e).1, Nat.lt_of_lt_of_le ((h.2 q hq).2.2 b off e).2.1 hb.size, ((h.2 q hq).2.2 b off e).2.2⟩⟩⟩
/-- The row is written, or moved to a new block. -/
theorem InsW.row {w w1 : World} {lo : Nat} {v v1 : Value} {T : List PR} (h : InsW w lo v T) (hg : w.grownBy w1 v.ownBlock) (hv : v1.ownBlock = v.ownBlock ∨ v1.ownBlock = some w.heap.size) (hn : ∀ k, v1.ownBlock = some k → k < w1.heap.size) (hl : lo ≤ w.heap.size) : InsW w1 lo v1 T := by
  refine ⟨fun k hk => ⟨?_, hn k hk⟩, fun q hq => ?_⟩
  · rcases hv with e | e
    · exact (h.1 k (by rw [← e]; exact hk)).1
    · rw [e] at hk; injection hk with hk; omega
  · obtain ⟨h1, h2, h3⟩ := h.2 q hq
    refine ⟨h1.keep hg (fun b off e e2 => (h3 b off e).2.2 e2.symm), h2, fun b off e => ?_⟩
    obtain ⟨k1, k2, k3⟩ := h3 b off e
    refine ⟨k1, Nat.lt_of_lt_of_le k2 hg.size, ?_⟩
    rcases hv with e2 | e2
    · rw [e2]; exact k3
    · rw [e2]; intro e3; injection e3 with e3; omega
theorem InsW.snoc {w : World} {lo : Nat} {v : Value} {T : List PR} {q : PR} (h : InsW w lo v T) (h1 : Rd w q.x (iC q.L)) (h2 : q.L.length ≤ 1048576) (h3 : ∀ b off, q.x = some ⟨b, off, none⟩ → lo ≤ b ∧ b < w.heap.size ∧ v.ownBlock ≠ some b) : InsW w lo v (T ++ [q]) :=
  ⟨h.1, fun p hp => by
    rcases List.mem_append.1 hp with hp | hp
    · exact h.2 p hp
    · rw [List.mem_singleton] at hp; subst hp; exact ⟨h1, h2, h3⟩⟩
theorem InsW.sub {w : World} {lo : Nat} {v : Value} {T U : List PR} (h : InsW w lo v T) (hs : ∀ q ∈ U, q ∈ T) : InsW w lo v U := ⟨h.1, fun q hq => h.2 q (hs q hq)⟩
theorem InsW.drd {w : World} {lo : Nat} {x : Option Addr} {n c : Nat} {T : List PR} (h : InsW w lo (.slice x n c) T) (ho : w.ownsRow lo 36 3 (.slice x n c) n (pC T)) : DRd w lo w.heap.size x T :=
  ⟨Rd.of_own ho, fun b off e => h.1 b (by rw [e]; rfl), fun q hq => ⟨(h.2 q hq).1, fun b off e => ⟨((h.2 q hq).2.2 b off e).1, ((h.2 q hq).2.2 b off e).2.1⟩⟩⟩
theorem Rd.oneR (w : World) (t : TypeId) (a h : Int) (x : Option Addr) (n c : Nat) : Rd (w.alloc (.cells #[.int .i64 a, .int .i64 h, .slice x n c] t)) (some ⟨w.heap.size, 0, none⟩) [.int .i64 a, .int .i64 h, .slice x n c] := by
  refine Or.inr ⟨w.heap.size, 0, rfl, by simp, fun j u hj => ?_⟩
  rw [Nat.zero_add, World.cell?_alloc_at _ _ _ _ rfl, ← hj, ← Array.getElem?_toList]
theorem pC_single (q : PR) : pC [q] = [.int .i64 q.a, .int .i64 q.h, .slice q.x q.L.length q.c] := rfl
theorem pC_set3 (Q : List PR) (i : Nat) (q p : PR) (h : Q[i]? = some q) : (((pC Q).set (i * 3) (.int .i64 p.a)).set (i * 3 + 1) (.int .i64 p.h)).set (i * 3 + 2) p.v = pC (Q.set i p) := by
  have hi := (List.getElem?_eq_some_iff.1 h).1
  apply List.ext_getElem?
  intro j
  have hl : (pC Q).length = Q.length * 3 := pC_len Q
  have hs : (Q.set i p)[i]? = some p := set_same h
  rw [List.getElem?_set, List.getElem?_set, List.getElem?_set]
  simp only [List.length_set]
  by_cases e2 : i * 3 + 2 = j
  · subst e2; rw [if_pos rfl, if_pos (by omega), pC_at2 hs]
  by_cases e1 : i * 3 + 1 = j
  · subst e1; rw [if_neg e2, if_pos rfl, if_pos (by omega), pC_at1 hs]
  by_cases e0 : i * 3 = j
  · subst e0; rw [if_neg e2, if_neg e1, if_pos rfl, if_pos (by omega), pC_at0 hs]
  · rw [if_neg e2, if_neg e1, if_neg e0]
    by_cases hj : j < Q.length * 3
    · have hji : j / 3 ≠ i := by omega
      have hq : Q[j / 3]? = some (Q[j / 3]'(by omega)) := List.getElem?_eq_getElem (by omega)
      have hq2 : (Q.set i p)[j / 3]? = some (Q[j / 3]'(by omega)) := by rw [List.getElem?_set, if_neg (Ne.symm hji), hq]
      rcases (by omega : j = j / 3 * 3 ∨ j = j / 3 * 3 + 1 ∨ j = j / 3 * 3 + 2) with e | e | e
      · rw [e, pC_at0 hq, pC_at0 hq2]
      · rw [e, pC_at1 hq, pC_at1 hq2]
      · rw [e, pC_at2 hq, pC_at2 hq2]
    · rw [List.getElem?_eq_none (by omega), List.getElem?_eq_none (by rw [pC_len, List.length_set]; omega)]
/-- What the model's insertion has behind some shifts. -/
theorem ins_at {T : List PR} {e : PR} {k : Nat} (hk : k ≤ T.length) : (T.take k ++ e :: T.drop k).length = T.length + 1 := by
  rw [List.length_append, List.length_cons, List.length_take, List.length_drop]; omega
theorem ins_get {T : List PR} {e : PR} {k j : Nat} (hk : k ≤ T.length) (hj : j < k) : (T.take k ++ e :: T.drop k)[j]? = T[j]? := by
  rw [List.getElem?_append_left (by rw [List.length_take]; omega), List.getElem?_take, if_pos hj]
theorem ins_mid {T : List PR} {e : PR} {k : Nat} (hk : k ≤ T.length) : (T.take k ++ e :: T.drop k)[k]? = some e := by
  rw [List.getElem?_append_right (by rw [List.length_take]; omega), List.length_take, Nat.min_eq_left hk, Nat.sub_self]; rfl
theorem ins_set {T : List PR} {e p : PR} {k : Nat} (hk : k ≤ T.length) : (T.take k ++ e :: T.drop k).set k p = T.take k ++ p :: T.drop k := by
  rw [List.set_append_right _ _ (by rw [List.length_take]; omega), List.length_take, Nat.min_eq_left hk, Nat.sub_self]; rfl
theorem ins_shift {T : List PR} {p : PR} {k : Nat} (hk : k < T.length) (hp : T[k]? = some p) : T.take (k + 1) ++ p :: T.drop (k + 1) = T.take k ++ p :: T.drop k := by
  have e : T.drop k = p :: T.drop (k + 1) := by
    rw [List.drop_eq_getElem_cons hk]
    rw [List.getElem?_eq_getElem hk] at hp
    injection hp with hp
    rw [hp]
  rw [take_snoc hp, e, List.append_assoc]
  rfl
theorem ins_srt {T : List PR} {R : List RV} {q : PR} {k : Nat} (hT : pM T = srt R) (h1 : ∀ p ∈ T.drop k, 0 < rcZ p.m q.m) (h2 : k = 0 ∨ ∃ p, T[k - 1]? = some p ∧ ¬ 0 < rcZ p.m q.m) : pM (T.take k ++ q :: T.drop k) = srt (R ++ [q.m]) := by
  have e : pM (T.take k ++ q :: T.drop k) = (pM T).take k ++ q.m :: (pM T).drop k := by unfold pM; simp [List.map_take, List.map_drop]
  rw [e]
  refine srt_uniq ?_ ?_
  · exact (put_perm _ _ _).trans (by rw [hT]; exact (srt_perm R).append_right _)
  · refine isS_put (by rw [hT]; exact srt_pw R) (fun p hp => ?_) ?_
    · have : p ∈ pM (T.drop k) := by unfold pM at hp ⊢; rwa [List.map_drop]
      obtain ⟨u, hu, rfl⟩ := List.mem_map.1 this
      rw [leR_iff]
      have := h1 u hu
      have := rcZ_neg q.m u.m
      omega
    · rcases h2 with h2 | ⟨p, hp, hpr⟩
      · exact Or.inl h2
      · refine Or.inr ⟨p.m, pM_at hp, ?_⟩
        rw [leR_iff]; omega
end Go.Proofs.Ytdakmdjcmjpogaa
