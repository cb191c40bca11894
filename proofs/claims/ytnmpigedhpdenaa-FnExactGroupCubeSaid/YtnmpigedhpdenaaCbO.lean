/-
  Lists of lists of integers that a call owns: no block twice; a list appended.
-/
import Derived.Test.YtnmpigedhpdenaaCbB
import Derived.Test.YtnmpigedhpdenaaEdS
namespace Go.Proofs.Ytnmpigedhpdenaa
open Go.RowKit
set_option maxRecDepth 100000

theorem Try.infoRowC : (Try.prog.info? 22).map (fun i => (i.zero, i.size, i.bytes)) = some (some (.slice none 0 0), 1, 24) := by kernel_rfl
theorem rows_apartC {W : World} {n1 n2 e1 e2 s1 s2 k1 k2 : Nat} {u v : Value} {xs ys : List Value} (h1 : W.ownsRow n1 e1 s1 u k1 xs) (h2 : W.ownsRow n2 e2 s2 v k2 ys) (hne : e1 ≠ e2) : u.ownBlock = none ∨ u.ownBlock ≠ v.ownBlock := by
  rcases h1.2 with ⟨rfl, _⟩ | ⟨g, cap, cur, rfl, _, hgb, _⟩
  · exact .inl rfl
  · refine .inr fun e' => ?_
    rcases h2.2 with ⟨rfl, _⟩ | ⟨g2, cap2, cur2, rfl, _, hgb2, _⟩
    · simp [Value.ownBlock] at e'
    · obtain rfl : g = g2 := by simpa [Value.ownBlock] using e'
      rw [hgb] at hgb2
      cases hgb2
      exact hne rfl
/-- A list of lists of integers that a call owns. -/
def OwS (w : World) (lo : Nat) (v : Value) (T : List PR) : Prop :=
  w.ownsRow lo 22 1 v T.length (eC T) ∧ (∀ q ∈ T, w.ownsRow lo 3 1 q.v q.L.length (iC q.L)) ∧ (T.filterMap fun q => q.v.ownBlock).Nodup
theorem OwS.nil (w : World) (lo : Nat) : OwS w lo (.slice none 0 0) [] := ⟨World.ownsRow_nil _ _ _ _, (fun q h => by cases h), List.nodup_nil⟩
theorem OwS.below {w w' : World} {lo : Nat} {v : Value} {T : List PR} (h : OwS w lo v T) (hb : Below w.heap.size w w') : OwS w' lo v T := ⟨own_below h.1 hb, fun q hq => own_below (h.2.1 q hq) hb, h.2.2⟩
theorem OwS.more {w : World} {lo lo' : Nat} {v : Value} {T : List PR} (h : OwS w lo v T) (hl : lo' ≤ lo) : OwS w lo' v T := ⟨own_more h.1 hl, fun q hq => own_more (h.2.1 q hq) hl, h.2.2⟩
theorem OwS.lt {w : World} {lo : Nat} {v : Value} {T : List PR} (h : OwS w lo v T) : ∀ p ∈ T, ∀ k, p.v.ownBlock = some k → k < w.heap.size := fun p hp k hk => ((h.2.1 p hp).lt k hk).2
theorem OwS.off {w w' : World} {lo n₀ : Nat} {v : Value} {T : List PR} (h : OwS w lo v T) (hb : Below n₀ w w') (hn : w.heap.size ≤ n₀) : OwS w' lo v T := h.below (hb.mono hn)
theorem OwS.snoc {w1 w2 : World} {lo nq : Nat} {v v' : Value} {T : List PR} {q : PR} {o : Obj} (h : OwS w1 lo v T) (hg : (w1.alloc o).grownBy w2 v.ownBlock) (hrow : w2.ownsRow lo 22 1 v' (T.length + 1) (eC T ++ eC [q])) (hq : w1.ownsRow nq 3 1 q.v q.L.length (iC q.L)) (hlo : lo ≤ nq) (hfr : ∀ p ∈ T, ∀ k, p.v.ownBlock = some k → k < nq) : OwS w2 lo v' (T ++ [q]) := by
  refine ⟨own_eq hrow (by simp) (by unfold eC; rw [List.map_append]), fun p hp => ?_, ?_⟩
  · rcases List.mem_append.1 hp with h1 | h1
    · exact ((h.2.1 p h1).alloc o).kept hg (rows_apartC (h.2.1 p h1) h.1 (by decide))
    · obtain rfl := List.mem_singleton.1 h1
      exact own_more ((hq.alloc o).kept hg (rows_apartC hq h.1 (by decide))) hlo
  · rw [List.filterMap_append, List.nodup_append]
    refine ⟨h.2.2, ?_, ?_⟩
    · cases e : q.v.ownBlock with
      | none => simp [List.filterMap, e]
      | some k => simp [List.filterMap, e]
    · intro a ha b hb
      obtain ⟨p, hp, ep⟩ := List.mem_filterMap.1 ha
      obtain ⟨r, hr, er⟩ := List.mem_filterMap.1 hb
      obtain rfl := List.mem_singleton.1 hr
      have h1 := hfr p hp a ep
      have h2 := (hq.lt b er).1
      omega
theorem OwS.owE {w : World} {lo : Nat} {v : Value} {T : List PR} (h : OwS w lo v T) : OwE w lo w.heap.size 22 3 v T := ⟨OwR.of h.1, ⟨fun q hq => OwR.of (h.2.1 q hq), h.2.2⟩, fun q hq k hk e => by
  rcases rows_apartC (h.2.1 q hq) h.1 (by decide) with h0 | h0
  · rw [h0] at e; cases e
  · exact h0 (e.trans hk.symm)⟩
theorem rd_oneC (w : World) (t : TypeId) (q : PR) (g : Nat) (h : w.heap.size = g) : Rd (w.alloc (.cells #[q.v] t)) (some ⟨g, 0, none⟩) (eC [q]) := by
  subst h
  refine Or.inr ⟨w.heap.size, 0, rfl, by simp, fun j u hj => ?_⟩
  rw [Nat.zero_add, World.cell?_alloc_at _ _ _ _ rfl, ← hj, ← Array.getElem?_toList]
  rfl
/-- Rows that stand below the row that grows. -/
theorem OwS.grow {w1 w2 : World} {lo : Nat} {v : Value} {T : List PR} {o : Obj} {r : Option Nat} (h : OwS w1 lo v T) (hg : (w1.alloc o).grownBy w2 r) (hr : ∀ k, r = some k → w1.heap.size ≤ k) : OwS w2 lo v T :=
  h.below (((Below.refl _ _).alloc (Nat.le_refl _) o).grown hg (by simp) hr)

/-- Lists of lists that a function hands back. -/
def RetSS (L : List (List Int)) (w : World) (e : Ending) (w' : World) : Prop := ∃ v T, e = .returned v ∧ eM T = L ∧ OwS w' w.heap.size v T ∧ Below w.heap.size w w'
theorem four_of {L : List Int} (h : L.length = 4) : ∃ a b c d, L = [a, b, c, d] := by
  match L, h with
  | [a, b, c, d], _ => exact ⟨a, b, c, d, rfl⟩
theorem set_four {a b c d : Int} (j : Nat) (k : Int) : ∃ e f g h, [a, b, c, d].set j k = [e, f, g, h] := four_of (by simp)
/-- The place of a part. -/
theorem part_at {Z : List Int} (hz : okZ Z = true) (i : Int) {d : Nat} {z : Int} (h : Z[d]? = some z) {k : Nat} (hk : (k : Int) < z) {a b c e : Int} (hx : (dgX Z i).set d (k : Int) = [a, b, c, e]) :
    FtC Z [a, b, c, e] ∧ ixC Z [a, b, c, e] = ixC Z ((dgL Z i).set d (k : Int)) := by
  have hf := (dg_fit (okZ_nn hz) i).set h (show (0 : Int) ≤ (k : Int) by omega) (show (k : Int) ≤ z by omega)
  rw [dgX_set h] at hx
  rw [← hx]
  exact ⟨hf.more _, ixC_more _ _ _ hf.1⟩
theorem dgX_get {Z : List Int} (hz : okZ Z = true) (i : Int) {d : Nat} {z : Int} (h : Z[d]? = some z) : ∃ x, (dgX Z i)[d]? = some x ∧ (dgL Z i)[d]? = some x ∧ 0 ≤ x ∧ x ≤ z := by
  have hg := dgL_at i h
  have hf := (dg_fit (okZ_nn hz) i).2 d z _ h hg
  have hd := (List.getElem?_eq_some_iff.1 h).1
  refine ⟨_, ?_, hg, hf.1, hf.2⟩
  unfold dgX
  rw [List.getElem?_append_left (by rw [dgL_len]; exact hd), hg]
theorem ptU_row {Z : List Int} {i : Int} {d : Nat} {T : List PR} {r : PR} {z x : Int} (hT : eM T = ptU Z i d) (h : Z[d]? = some z) (k : (dgL Z i)[d]? = some x) (he : x = z) (hr : r.L = ptD Z i d) : eM (T ++ [r]) = ptU Z i (d + 1) := by
  subst he
  rw [eM_app, hT, ptU_yes h k]
  simp [eM, hr]
end Go.Proofs.Ytnmpigedhpdenaa
