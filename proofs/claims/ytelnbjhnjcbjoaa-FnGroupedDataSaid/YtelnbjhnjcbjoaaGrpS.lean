/-
  The walks of chapter 2: grouped values; the program's and the model's.
-/
import Derived.Test.YtelnbjhnjcbjoaaGrpI
import Derived.Test.YtelnbjhnjcbjoaaGrpL
import Derived.RegionTactic
import Derived.BigRegion
import Derived.StillTailTactics
namespace Go.Proofs.Ytelnbjhnjcbjoaa
open Go.RowKit
set_option maxRecDepth 100000

/-- A list of integers, or of variables, that a function gives, and a bool. -/
def ResI (L : List Int) (b : Bool) (w : World) (e : Ending) (w' : World) : Prop :=
  ∃ u, e = .returned (.tuple #[u, .bool b]) ∧ w'.ownsRow w.heap.size 3 1 u L.length (iC L) ∧ Below w.heap.size w w'
def ResV (L : List (ByteArray × Int)) (b : Bool) (w : World) (e : Ending) (w' : World) : Prop :=
  ∃ u, e = .returned (.tuple #[u, .bool b]) ∧ w'.ownsRow w.heap.size 107 2 u L.length (vC L) ∧ Below w.heap.size w w'
theorem iC_set (L : List Int) (k : Nat) (v : Int) : (iC L).set k (.int .i64 v) = iC (L.set k v) := by unfold iC; rw [List.map_set]
theorem vC_set1 : ∀ (S : List (ByteArray × Int)) (k : Nat) (nm : ByteArray) (lv lw : Int), S[k]? = some (nm, lv) → (vC S).set (k * 2 + 1) (.int .i64 lw) = vC (S.set k (nm, lw))
  | [], k, nm, lv, lw, h => by simp at h
  | p :: r, 0, nm, lv, lw, h => by simp at h; subst h; simp [vC]
  | p :: r, k + 1, nm, lv, lw, h => by
    simp only [List.getElem?_cons_succ] at h
    rw [show (k + 1) * 2 + 1 = k * 2 + 1 + 1 + 1 by omega]
    simp only [vC, List.set_cons_succ]
    rw [vC_set1 r k nm lv lw h]
theorem own_someG' {w : World} {base e size n : Nat} {v : Value} {xs : List Value} (h : w.ownsRow base e size v n xs) (hn : 0 < n) : ∃ g cap, v = .slice (some ⟨g, 0, none⟩) n cap := by
  rcases h.2 with ⟨_, h2⟩ | ⟨g, cap, cur, hv, _⟩
  · omega
  · exact ⟨g, cap, hv⟩

/-- What GroupValues gives. -/
def gwB (S : List (ByteArray × Int)) (v : Int) (G V : List Int) : Bool := igB S v G && fitB S V
def gwL (S : List (ByteArray × Int)) (v : Int) (G V : List Int) : List Int := if gwB S v G V then V.set v.toNat (G.getD (V.getD v.toNat 0).toNat 0) else []
theorem gw_no1 {S : List (ByteArray × Int)} {v : Int} {G V : List Int} (h : schB S = false) : gwB S v G V = false ∧ gwL S v G V = [] := by
  have e : gwB S v G V = false := by unfold gwB igB; rw [h]; rfl
  exact ⟨e, by unfold gwL; rw [e]; rfl⟩
theorem gw_no2 {S : List (ByteArray × Int)} {v : Int} {G V : List Int} (h : gvB S v G = false) : gwB S v G V = false ∧ gwL S v G V = [] := by
  have e : gwB S v G V = false := by unfold gwB igB; rw [h, Bool.and_false]; rfl
  exact ⟨e, by unfold gwL; rw [e]; rfl⟩
theorem gw_no3 {S : List (ByteArray × Int)} {v : Int} {G V : List Int} (h : fitB S V = false) : gwB S v G V = false ∧ gwL S v G V = [] := by
  have e : gwB S v G V = false := by unfold gwB; rw [h, Bool.and_false]
  exact ⟨e, by unfold gwL; rw [e]; rfl⟩
theorem gw_yes {S : List (ByteArray × Int)} {k : Nat} {G V : List Int} {a : Nat} {b : Int} (h1 : schB S = true) (h2 : gvB S k G = true) (h3 : fitB S V = true) (ha : V[k]? = some (a : Int)) (hb : G[a]? = some b) :
    gwB S k G V = true ∧ gwL S k G V = V.set k b := by
  have e : gwB S k G V = true := by unfold gwB igB; rw [h1, h2, h3]; rfl
  refine ⟨e, ?_⟩
  unfold gwL
  rw [e, if_pos rfl, Int.toNat_natCast, List.getD_eq_getElem?_getD, List.getD_eq_getElem?_getD, ha, Option.getD_some, Int.toNat_natCast, hb]
  rfl

end Go.Proofs.Ytelnbjhnjcbjoaa
