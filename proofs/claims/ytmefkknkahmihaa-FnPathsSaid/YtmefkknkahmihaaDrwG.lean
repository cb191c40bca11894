/-
  The model's draws of chapter 2: groupings.
-/
import Derived.Test.YtmefkknkahmihaaDrwV
import Derived.Deep.DeepCutAuto
import Derived.Deep.CutRange
namespace Go.Proofs.Ytmefkknkahmihaa
open Go.RowKit
set_option maxRecDepth 100000

def NnI (L : List Int) : Prop := ∀ n ∈ L, 0 ≤ n ∧ n ≤ 9
theorem NnI.nil : NnI [] := fun n hn => by cases hn
theorem NnI.snoc {L : List Int} {n : Int} (h : NnI L) (h1 : 0 ≤ n) (h2 : n ≤ 9) : NnI (L ++ [n]) := by
  intro m hm
  rcases List.mem_append.1 hm with hm | hm
  · exact h m hm
  · simp at hm
    subst hm
    exact ⟨h1, h2⟩
theorem NnI.set {L : List Int} {n : Int} (h : NnI L) (k : Nat) (h1 : 0 ≤ n) (h2 : n ≤ 9) : NnI (L.set k n) := by
  intro m hm
  rcases List.mem_or_eq_of_mem_set hm with hm | rfl
  · exact h m hm
  · exact ⟨h1, h2⟩
theorem Wb.far {W : World} {g : Nat} {t : TypeId} {cs : Array Value} (h : Wb W g t cs) (p : Addr) (hne : g ≠ p.block) (u : Value) : Wb (W.setCell p u) g t cs := (Below.heap_setCell _ _ _ _ hne).trans h
theorem Rd.varA {w : World} {bl off : Nat} {S : List (ByteArray × Int)} {j : Nat} {nm : ByteArray} {lv : Int} (h : Rd w (some ⟨bl, off, none⟩) (vC S)) (hj : S[j]? = some (nm, lv)) :
    w.cell? ⟨bl, off + j * 2, none⟩ = some (.string nm) ∧ w.cell? ⟨bl, off + j * 2 + 1, none⟩ = some (.int .i64 lv) := by
  have h0 := vC_at0 hj
  have h1 := vC_at1 hj
  rcases h with h | ⟨b, o, e, _, hc⟩
  · rw [h] at h0
    cases h0
  · injection e with e
    injection e with e1 e2
    subst e1 e2
    exact ⟨hc _ _ h0, by have := hc _ _ h1; rw [← Nat.add_assoc] at this; exact this⟩
theorem grown_setP (W : World) (p : Addr) (v : Value) : W.grownBy (W.setCell p v) (some p.block) :=
  ⟨rfl, rfl, rfl, by simp [World.setCell], fun k _ hk => Below.heap_setCell _ _ _ k (fun e => hk (by rw [e]))⟩
theorem own_farC {w : World} {base e size n : Nat} {v : Value} {xs : List Value} (h : w.ownsRow base e size v n xs) (p : Addr) (hp : p.block < base) (u : Value) : (w.setCell p u).ownsRow base e size v n xs := by
  refine h.kept (grown_setP w p u) ?_
  cases hv : v.ownBlock with
  | none => exact Or.inl rfl
  | some k => exact Or.inr (fun e => by injection e with e; have := (h.lt k hv).1; omega)
def GrpPost (b : Nat) (x : Option Addr) (n cap k more hi : Nat) (w : World) (e : Ending) (w' : World) : Prop :=
  ∃ (v : Int) (L : List Int) (u : Value) (k' : Nat), e = .returned (.agg #[.int .i64 v, u]) ∧ -1 ≤ v ∧ v ≤ 9 ∧ NnI L ∧ L.length ≤ hi ∧ k ≤ k' ∧ k' ≤ k + more ∧ w'.ownsRow w.heap.size 3 1 u L.length (iC L) ∧ CurAt w' b x n cap k' ∧ w.grownBy w' (some b)
theorem gr_fin {b : Nat} {x : Option Addr} {n cap k : Nat} {w W : World} (v : Int) (L : List Int) (u : Value) (kk : Nat) (h1 : -1 ≤ v) (h2 : v ≤ 9) (h3 : NnI L) (h4 : L.length ≤ 10) (h5 : k ≤ kk) (h6 : kk ≤ k + 100) (hO : W.ownsRow (w.heap.size + 2) 3 1 u L.length (iC L)) (hC : CurAt W b x n cap kk) (hG : w.grownBy W (some b)) (hb : b < w.heap.size) {a1 a2 : Value} :
    GrpPost b x n cap k 100 10 w (.returned (.agg #[.int .i64 v, u])) ((W.setCell ⟨w.heap.size, 0, none⟩ a1).setCell ⟨w.heap.size, 1, none⟩ a2) :=
  ⟨v, L, u, kk, rfl, h1, h2, h3, h4, h5, h6, own_more (own_farC (own_farC hO ⟨w.heap.size, 0, none⟩ (by show w.heap.size < _; omega) _) ⟨w.heap.size, 1, none⟩ (by show w.heap.size < _; omega) _) (by omega), (hC.set (by omega) 0 _).set (by omega) 1 _, grown_set (grown_set hG (Nat.le_refl _) 0 _) (Nat.le_refl _) 1 _⟩
end Go.Proofs.Ytmefkknkahmihaa
