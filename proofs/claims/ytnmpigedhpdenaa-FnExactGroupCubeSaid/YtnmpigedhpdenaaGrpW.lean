/-
  The walks of chapter 2: groupings; the program's and the model's.
-/
import Derived.Test.YtnmpigedhpdenaaGrp
import Derived.Test.YtnmpigedhpdenaaSchV
import Derived.Test.YtnmpigedhpdenaaApp
namespace Go.Proofs.Ytnmpigedhpdenaa
open Go.RowKit
set_option maxRecDepth 100000

set_option maxHeartbeats 1000000 in
theorem l1All_any (x : Option Addr) (cap : Nat) (G : List Int) (lo hi : Int) (w : World) (hm : G.length ≤ 1048576) (hL : Rd w x (iC G)) :
    Calls Try.prog 62 #[.slice x G.length cap, .int .i64 lo, .int .i64 hi] w fun e w' => e = .returned (.bool (inR G lo hi)) ∧ w = w' := by
  have hLh := Lib.hid hL
  clear hL
  go_enter Try.func62, Try.ntmps62
  go_wp2
  go_loop [11] (fun c => ∃ i : Nat, i ≤ G.length ∧ c = .int .i64 i ∧ Hid (∀ j, j < i → ∃ v, G[j]? = some v ∧ inB v lo hi = true)) (fun c => G.length - (intOf c).toNat)
  case atStart => exact ⟨0, by omega, rfl, fun j hj => absurd hj (by omega)⟩
  case round =>
    obtain ⟨i, hi', rfl, hall⟩ := hrel
    by_cases hlt : i < G.length
    · obtain ⟨bl, off, v, hx, hbl, hGi, hc⟩ := hLh.out.int (i := i) hlt
      subst hx
      have hlt' : (i : Int) < (G.length : Int) := by omega
      cases hb : inB v lo hi
      · have hv := Lib.hid (inR_bad hGi hb)
        clear hGi
        go_wp2_with (go_at_call 73; refine (l1In_any _ _ _ _).mono ?_; rintro e w1 ⟨rfl, rfl⟩)
        go_ret
        exact ⟨ret_bool hv.out.symm, rfl⟩
      · replace hGi := Lib.hid hGi
        go_wp2_with (go_at_call 73; refine (l1In_any _ _ _ _).mono ?_; rintro e w1 ⟨rfl, rfl⟩)
        go_round
        case rel =>
          refine ⟨i + 1, by omega, by go_num, fun j hj => ?_⟩
          rcases Nat.lt_or_ge j i with h | h
          · exact hall.out j h
          · obtain rfl : j = i := by omega
            exact ⟨v, hGi.out, hb⟩
        case measure => simp [intOf]; omega
    · have hij : i = G.length := by omega
      subst hij
      have hv := Lib.hid (inR_all hall.out)
      clear hall
      go_wp2
      go_ret
      exact ⟨ret_bool hv.out.symm, rfl⟩

/-- The array of the levels that are met. -/
def UsedAt (w : World) (g : Nat) (t : TypeId) (G : List Int) : Prop := ∃ cs : Array Value, Wb w g t cs ∧ cs.size = 8 ∧ ∀ j : Nat, j < 8 → cs[j]? = some (.bool (decide ((j : Int) ∈ G)))
theorem UsedAt.start (w : World) (t : TypeId) : UsedAt (w.alloc (.cells #[.bool false, .bool false, .bool false, .bool false, .bool false, .bool false, .bool false, .bool false] t)) w.heap.size t [] := by
  refine ⟨_, Wb.new w t _, rfl, fun j hj => ?_⟩
  have : j = 0 ∨ j = 1 ∨ j = 2 ∨ j = 3 ∨ j = 4 ∨ j = 5 ∨ j = 6 ∨ j = 7 := by omega
  rcases this with rfl | rfl | rfl | rfl | rfl | rfl | rfl | rfl <;> rfl
theorem UsedAt.same {w : World} {g : Nat} {t : TypeId} {G : List Int} {k : Nat} (h : UsedAt w g t G) (hk : (k : Int) ∈ G) : UsedAt w g t (G ++ [(k : Int)]) := by
  obtain ⟨cs, h1, h2, h3⟩ := h
  refine ⟨cs, h1, h2, fun j hj => ?_⟩
  rw [h3 j hj]
  congr 2
  rw [decide_eq_decide, List.mem_append, List.mem_singleton]
  exact ⟨Or.inl, fun h => h.elim id (fun e => e ▸ hk)⟩
theorem UsedAt.put {w : World} {g : Nat} {t : TypeId} {G : List Int} {k : Nat} (h : UsedAt w g t G) (hk : k < 8) : UsedAt (w.setCell ⟨g, k, none⟩ (.bool true)) g t (G ++ [(k : Int)]) := by
  obtain ⟨cs, h1, h2, h3⟩ := h
  refine ⟨_, h1.put k (.bool true), by simpa using h2, fun j hj => ?_⟩
  rw [Array.getElem?_setIfInBounds]
  split
  · rename_i e
    subst e
    rw [if_pos (by omega)]
    simp
  · rename_i e
    rw [h3 j hj]
    congr 2
    rw [decide_eq_decide, List.mem_append, List.mem_singleton]
    exact ⟨Or.inl, fun h => h.elim id (fun e2 => absurd (by omega) e)⟩
theorem UsedAt.facts {w : World} {g : Nat} {t : TypeId} {G : List Int} (h : UsedAt w g t G) {k : Nat} (hk : k < 8) : w.cell? ⟨g, k, none⟩ = some (.bool (decide ((k : Int) ∈ G))) ∧ w.frozen? ⟨g, k, none⟩ = false ∧ g < w.heap.size := by
  obtain ⟨cs, h1, h2, h3⟩ := h
  exact ⟨(h1.read k).trans (h3 k hk), h1.free k, h1.inside⟩
theorem met_step {G : List Int} {i : Nat} {v : Int} (h : G[i]? = some v) : ((metL (G.take (i + 1))).length : Int) = if v ∈ G.take i then ((metL (G.take i)).length : Int) else (metL (G.take i)).length + 1 := by
  rw [take_snoc h, metL_snoc, putL_len]
  by_cases hv : v ∈ metL (G.take i)
  · rw [if_pos hv, if_pos ((metL_mem _ _).1 hv)]
  · rw [if_neg hv, if_neg (fun h => hv ((metL_mem _ _).2 h))]
    omega

end Go.Proofs.Ytnmpigedhpdenaa
