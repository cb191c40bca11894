/-
  The walks of chapter 2: groupings; the program's and the model's.
-/
import Derived.Test.YtcmfoclalcmamabGreatDoorGrp
import Derived.Test.YtcmfoclalcmamabGreatDoorSchV
import Derived.Test.YtcmfoclalcmamabGreatDoorApp
namespace Go.Proofs.YtcmfoclalcmamabGreatDoor
open Go.RowKit
set_option maxRecDepth 100000

set_option maxHeartbeats 1000000 in
theorem max_any (x : Option Addr) (cap : Nat) (G : List Int) (w : World) (hm : G.length ≤ 1048576) (h0 : 0 < G.length) (hL : Rd w x (iC G)) :
    Calls Tryz.prog 68 #[.slice x G.length cap] w fun e w' => e = .returned (.int .i64 (mxZ G)) ∧ w = w' := by
  obtain ⟨bl, off, a, hx, hbl, hG0, hc0⟩ := hL.int (i := 0) h0
  have h0' : ¬ (G.length : Int) < 1 := by omega
  have h0'' : (0 : Int) < (G.length : Int) := by omega
  have hLh := Lib.hid hL
  subst hx
  rw [Nat.add_zero] at hc0
  clear hL
  go_enter Tryz.func68, Tryz.ntmps68
  go_wp2
  go_loop [3, 4] (fun m c => ∃ (i : Nat) (v : Int), 1 ≤ i ∧ i ≤ G.length ∧ c = .int .i64 i ∧ m = .int .i64 v ∧ Hid (v ∈ G ∧ ∀ y ∈ G.take i, y ≤ v)) (fun _ c => G.length - (intOf c).toNat)
  case atStart =>
    refine ⟨1, a, by omega, by omega, by go_num, rfl, List.mem_of_getElem? hG0, fun y hy => ?_⟩
    obtain ⟨j, hj, e⟩ := List.mem_take_iff_getElem.1 hy
    have : j = 0 := by omega
    subst this
    have := (List.getElem?_eq_some_iff.1 hG0).2
    omega
  case round =>
    clear hG0 hc0
    obtain ⟨i, v, hi1, hi, rfl, rfl, hv⟩ := hrel
    by_cases hlt : i < G.length
    · obtain ⟨bl2, off2, u, hx2, hbl2, hGi, hc2⟩ := hLh.out.int (i := i) hlt
      injection hx2 with hx2
      injection hx2 with hx2 hx3
      subst hx2 hx3
      replace hGi := Lib.hid hGi
      have hlt' : (i : Int) < (G.length : Int) := by omega
      by_cases hvu : v < u
      all_goals
        go_wp2
        go_round
        case rel =>
          refine ⟨i + 1, _, by omega, by omega, by go_num, rfl, ?_⟩
          refine ⟨by first | exact hv.out.1 | exact List.mem_of_getElem? hGi.out, fun y hy => ?_⟩
          rw [take_snoc hGi.out, List.mem_append, List.mem_singleton] at hy
          rcases hy with hy | rfl
          · have := hv.out.2 y hy
            omega
          · omega
        case measure => simp [intOf]; omega
    · have hij : i = G.length := by omega
      subst hij
      have hr : Hid (mxZ G = v) := by
        have := hv.out
        rw [List.take_length] at this
        exact mx_uniq this.1 this.2
      go_wp2
      go_ret
      exact ⟨ret_int hr.out.symm, rfl⟩

set_option maxHeartbeats 1000000 in
theorem l1All_any (x : Option Addr) (cap : Nat) (G : List Int) (lo hi : Int) (w : World) (hm : G.length ≤ 1048576) (hL : Rd w x (iC G)) :
    Calls Tryz.prog 90 #[.slice x G.length cap, .int .i64 lo, .int .i64 hi] w fun e w' => e = .returned (.bool (inR G lo hi)) ∧ w = w' := by
  have hLh := Lib.hid hL
  clear hL
  go_enter Tryz.func90, Tryz.ntmps90
  go_wp2
  go_loop [11] (fun c => ∃ i : Nat, i ≤ G.length ∧ c = .int .i64 i ∧ Hid (∀ j, j < i → ∃ v, G[j]? = some v ∧ inB v lo hi = true)) (fun c => G.length - (intOf c).toNat)
  case atStart => exact ⟨0, by omega, rfl, fun j hj => absurd hj (by omega)⟩
  case round =>
    obtain ⟨i, hi', rfl, hall⟩ := hrel
    by_cases hlt : i < G.length
    · obtain ⟨bl, off, v, hx, hbl, hGi, hc⟩ := hLh.out.int (i := i) hlt
      subst hx
      have hlt' : (i : Int) < (G.length : Int) := by omega
      cases hb : inB v lo hi
      · have hv := Lib.hid (inR_bad hGi hb)
        clear hGi
        go_wp2_with (go_at_call 57; refine (l1In_any _ _ _ _).mono ?_; rintro e w1 ⟨rfl, rfl⟩)
        go_ret
        exact ⟨ret_bool hv.out.symm, rfl⟩
      · replace hGi := Lib.hid hGi
        go_wp2_with (go_at_call 57; refine (l1In_any _ _ _ _).mono ?_; rintro e w1 ⟨rfl, rfl⟩)
        go_round
        case rel =>
          refine ⟨i + 1, by omega, by go_num, fun j hj => ?_⟩
          rcases Nat.lt_or_ge j i with h | h
          · exact hall.out j h
          · obtain rfl : j = i := by omega
            exact ⟨v, hGi.out, hb⟩
        case measure => simp [intOf]; omega
    · have hij : i = G.length := by omega
      subst hij
      have hv := Lib.hid (inR_all hall.out)
      clear hall
      go_wp2
      go_ret
      exact ⟨ret_bool hv.out.symm, rfl⟩

/-- The array of the levels that are met. -/
def UsedAt (w : World) (g : Nat) (t : TypeId) (G : List Int) : Prop := ∃ cs : Array Value, Wb w g t cs ∧ cs.size = 8 ∧ ∀ j : Nat, j < 8 → cs[j]? = some (.bool (decide ((j : Int) ∈ G)))
theorem UsedAt.start (w : World) (t : TypeId) : UsedAt (w.alloc (.cells #[.bool false, .bool false, .bool false, .bool false, .bool false, .bool false, .bool false, .bool false] t)) w.heap.size t [] := by
  refine ⟨_, Wb.new w t _, rfl, fun j hj => ?_⟩
  have : j = 0 ∨ j = 1 ∨ j = 2 ∨ j = 3 ∨ j = 4 ∨ j = 5 ∨ j = 6 ∨ j = 7 := by omega
  rcases this with rfl | rfl | rfl | rfl | rfl | rfl | rfl | rfl <;> rfl
theorem UsedAt.same {w : World} {g : Nat} {t : TypeId} {G : List Int} {k : Nat} (h : UsedAt w g t G) (hk : (k : Int) ∈ G) : UsedAt w g t (G ++ [(k : Int)]) := by
  obtain ⟨cs, h1, h2, h3⟩ := h
  refine ⟨cs, h1, h2, fun j hj => ?_⟩
  rw [h3 j hj]
  congr 2
  rw [decide_eq_decide, List.mem_append, List.mem_singleton]
  exact ⟨Or.inl, fun h => h.elim id (fun e => e ▸ hk)⟩
theorem UsedAt.put {w : World} {g : Nat} {t : TypeId} {G : List Int} {k : Nat} (h : UsedAt w g t G) (hk : k < 8) : UsedAt (w.setCell ⟨g, k, none⟩ (.bool true)) g t (G ++ [(k : Int)]) := by
  obtain ⟨cs, h1, h2, h3⟩ := h
  refine ⟨_, h1.put k (.bool true), by simpa using h2, fun j hj => ?_⟩
  rw [Array.getElem?_setIfInBounds]
  split
  · rename_i e
    subst e
    rw [if_pos (by omega)]
    simp
  · rename_i e
    rw [h3 j hj]
    congr 2
    rw [decide_eq_decide, List.mem_append, List.mem_singleton]
    exact ⟨Or.inl, fun h => h.elim id (fun e2 => absurd (by omega) e)⟩
theorem UsedAt.facts {w : World} {g : Nat} {t : TypeId} {G : List Int} (h : UsedAt w g t G) {k : Nat} (hk : k < 8) : w.cell? ⟨g, k, none⟩ = some (.bool (decide ((k : Int) ∈ G))) ∧ w.frozen? ⟨g, k, none⟩ = false ∧ g < w.heap.size := by
  obtain ⟨cs, h1, h2, h3⟩ := h
  exact ⟨(h1.read k).trans (h3 k hk), h1.free k, h1.inside⟩
theorem met_step {G : List Int} {i : Nat} {v : Int} (h : G[i]? = some v) : ((metL (G.take (i + 1))).length : Int) = if v ∈ G.take i then ((metL (G.take i)).length : Int) else (metL (G.take i)).length + 1 := by
  rw [take_snoc h, metL_snoc, putL_len]
  by_cases hv : v ∈ metL (G.take i)
  · rw [if_pos hv, if_pos ((metL_mem _ _).1 hv)]
  · rw [if_neg hv, if_neg (fun h => hv ((metL_mem _ _).2 h))]
    omega

set_option maxHeartbeats 2000000 in
theorem areGroups_any (x : Option Addr) (cap : Nat) (G : List Int) (w : World) (hm : G.length ≤ 8) (hL : Rd w x (iC G)) :
    Calls Tryz.prog 123 #[.slice x G.length cap] w fun e w' => e = .returned (.bool (gsB G)) ∧ Below w.heap.size w w' := by
  have hLh := Lib.hid hL
  clear hL
  go_enter Tryz.func123, Tryz.ntmps123
  go_wp2
  go_loopw [4, 9] (fun q c wr => ∃ i : Nat, i ≤ G.length ∧ c = .int .i64 i ∧ q = .int .i64 ((metL (G.take i)).length : Nat) ∧ Hid (UsedAt wr w.heap.size 177 (G.take i)) ∧ Hid (∀ j, j < i → ∃ v, G[j]? = some v ∧ 0 ≤ v ∧ v < (G.length : Int)) ∧ Below w.heap.size w wr) (fun _ c _ => G.length - (intOf c).toNat)
  case atStart => exact ⟨0, by omega, rfl, rfl, by rw [List.take_zero]; exact UsedAt.start w _, (fun j hj => absurd hj (by omega)), (by repeat (first | exact Below.refl _ _ | assumption | refine Below.drew ?_ | refine below_drewN ?_ _ | refine Below.alloc' ?_ _ | (refine Below.setCell ?_ (by first | omega | (simp; done) | (simp; omega) | exact Below.size (by assumption) | exact Nat.le_trans (Below.size (by assumption)) (by simp)) _) | (refine Below.via' ?_ (by assumption)) | (refine Below.alloc ?_ (by first | omega | (simp; done) | (simp; omega) | exact Below.size (by assumption) | exact Nat.le_trans (Below.size (by assumption)) (by simp)) _) | (refine Below.via ?_ (by assumption) (by first | omega | (simp; done) | (simp; omega) | exact Below.size (by assumption) | exact Nat.le_trans (Below.size (by assumption)) (by simp)))))⟩
  case round =>
    obtain ⟨i, hi, rfl, rfl, hu, hall, hb⟩ := hrel
    have hml : (metL (G.take i)).length ≤ i := by
      have := metL_len (G.take i)
      rw [List.length_take] at this
      omega
    by_cases hlt : i < G.length
    · obtain ⟨bl, off, v, hx, hbl, hGi, hc⟩ := (hLh.out.below hb).int (i := i) hlt
      subst hx
      have hlt' : (i : Int) < (G.length : Int) := by omega
      by_cases h1 : v < 0
      · have hv := Lib.hid (gs_wide hGi (Or.inl h1))
        clear hGi
        go_wp2
        go_ret
        exact ⟨ret_bool hv.out.symm, (by repeat (first | exact Below.refl _ _ | assumption | refine Below.drew ?_ | refine below_drewN ?_ _ | refine Below.alloc' ?_ _ | (refine Below.setCell ?_ (by first | omega | (simp; done) | (simp; omega) | exact Below.size (by assumption) | exact Nat.le_trans (Below.size (by assumption)) (by simp)) _) | (refine Below.via' ?_ (by assumption)) | (refine Below.alloc ?_ (by first | omega | (simp; done) | (simp; omega) | exact Below.size (by assumption) | exact Nat.le_trans (Below.size (by assumption)) (by simp)) _) | (refine Below.via ?_ (by assumption) (by first | omega | (simp; done) | (simp; omega) | exact Below.size (by assumption) | exact Nat.le_trans (Below.size (by assumption)) (by simp)))))⟩
      by_cases h2 : (G.length : Int) ≤ v
      · have hv := Lib.hid (gs_wide hGi (Or.inr h2))
        clear hGi
        go_wp2
        go_ret
        exact ⟨ret_bool hv.out.symm, (by repeat (first | exact Below.refl _ _ | assumption | refine Below.drew ?_ | refine below_drewN ?_ _ | refine Below.alloc' ?_ _ | (refine Below.setCell ?_ (by first | omega | (simp; done) | (simp; omega) | exact Below.size (by assumption) | exact Nat.le_trans (Below.size (by assumption)) (by simp)) _) | (refine Below.via' ?_ (by assumption)) | (refine Below.alloc ?_ (by first | omega | (simp; done) | (simp; omega) | exact Below.size (by assumption) | exact Nat.le_trans (Below.size (by assumption)) (by simp)) _) | (refine Below.via ?_ (by assumption) (by first | omega | (simp; done) | (simp; omega) | exact Below.size (by assumption) | exact Nat.le_trans (Below.size (by assumption)) (by simp)))))⟩
      obtain ⟨k, rfl⟩ := Int.eq_ofNat_of_zero_le (show 0 ≤ v by omega)
      have hk8 : k < 8 := by omega
      have hk8' : (k : Int) < 8 := by omega
      have hstep := Lib.hid (met_step hGi)
      have htk := Lib.hid (take_snoc hGi)
      obtain ⟨u0, u1, u2⟩ := hu.out.facts hk8
      have hall2 : Hid (∀ j, j < i + 1 → ∃ v, G[j]? = some v ∧ 0 ≤ v ∧ v < (G.length : Int)) := fun j hj => by
        rcases Nat.lt_or_ge j i with h | h
        · exact hall.out j h
        · obtain rfl : j = i := by omega
          exact ⟨k, hGi, by omega, by omega⟩
      clear hGi
      by_cases hin : (k : Int) ∈ G.take i
      · rw [decide_eq_true hin] at u0
        have hu2 := Lib.hid (hu.out.same hin)
        have hcnt : Hid (((metL (G.take (i + 1))).length : Int) = (metL (G.take i)).length) := by unfold Hid; rw [hstep.out, if_pos hin]
        replace hin := Lib.hid hin
        go_wp2
        go_roundw
        case rel => exact ⟨i + 1, by omega, by go_num, by rw [hcnt.out], by rw [htk.out]; exact hu2.out, hall2.out, (by repeat (first | exact Below.refl _ _ | assumption | refine Below.drew ?_ | refine below_drewN ?_ _ | refine Below.alloc' ?_ _ | (refine Below.setCell ?_ (by first | omega | (simp; done) | (simp; omega) | exact Below.size (by assumption) | exact Nat.le_trans (Below.size (by assumption)) (by simp)) _) | (refine Below.via' ?_ (by assumption)) | (refine Below.alloc ?_ (by first | omega | (simp; done) | (simp; omega) | exact Below.size (by assumption) | exact Nat.le_trans (Below.size (by assumption)) (by simp)) _) | (refine Below.via ?_ (by assumption) (by first | omega | (simp; done) | (simp; omega) | exact Below.size (by assumption) | exact Nat.le_trans (Below.size (by assumption)) (by simp)))))⟩
        case measure => simp [intOf]; omega
      · rw [decide_eq_false hin] at u0
        have hu2 := Lib.hid (hu.out.put hk8)
        have hcnt : Hid (((metL (G.take (i + 1))).length : Int) = (metL (G.take i)).length + 1) := by unfold Hid; rw [hstep.out, if_neg hin]
        replace hin := Lib.hid hin
        have hms : (metL (G.take i)).length ≤ 8 := by omega
        go_wp2
        go_roundw
        case rel => exact ⟨i + 1, by omega, by go_num, by rw [hcnt.out], by rw [htk.out]; exact hu2.out, hall2.out, (by repeat (first | exact Below.refl _ _ | assumption | refine Below.drew ?_ | refine below_drewN ?_ _ | refine Below.alloc' ?_ _ | (refine Below.setCell ?_ (by first | omega | (simp; done) | (simp; omega) | exact Below.size (by assumption) | exact Nat.le_trans (Below.size (by assumption)) (by simp)) _) | (refine Below.via' ?_ (by assumption)) | (refine Below.alloc ?_ (by first | omega | (simp; done) | (simp; omega) | exact Below.size (by assumption) | exact Nat.le_trans (Below.size (by assumption)) (by simp)) _) | (refine Below.via ?_ (by assumption) (by first | omega | (simp; done) | (simp; omega) | exact Below.size (by assumption) | exact Nat.le_trans (Below.size (by assumption)) (by simp)))))⟩
        case measure => simp [intOf]; omega
    · have hij : i = G.length := by omega
      subst hij
      rw [List.take_length]
      have hin := inR_of hm hall.out
      rw [List.take_length] at hml
      by_cases h2 : (metL G).length < 2
      · have hv := Lib.hid (gs_few h2)
        have h2' : ((metL G).length : Int) < 2 := by omega
        clear hall hu
        go_wp2
        go_ret
        exact ⟨ret_bool hv.out.symm, (by repeat (first | exact Below.refl _ _ | assumption | refine Below.drew ?_ | refine below_drewN ?_ _ | refine Below.alloc' ?_ _ | (refine Below.setCell ?_ (by first | omega | (simp; done) | (simp; omega) | exact Below.size (by assumption) | exact Nat.le_trans (Below.size (by assumption)) (by simp)) _) | (refine Below.via' ?_ (by assumption)) | (refine Below.alloc ?_ (by first | omega | (simp; done) | (simp; omega) | exact Below.size (by assumption) | exact Nat.le_trans (Below.size (by assumption)) (by simp)) _) | (refine Below.via ?_ (by assumption) (by first | omega | (simp; done) | (simp; omega) | exact Below.size (by assumption) | exact Nat.le_trans (Below.size (by assumption)) (by simp)))))⟩
      have h2' : ¬ ((metL G).length : Int) < 2 := by omega
      have hms : (metL G).length ≤ 8 := by omega
      have hg0 : 0 < G.length := by omega
      by_cases h3 : mxZ G = (metL G).length - 1
      · have hv := Lib.hid (gs_yes hin (by omega) h3)
        have h3' : (mxZ G == ((metL G).length : Int) - 1) = true := by rw [beq_iff_eq]; exact h3
        replace h3 := Lib.hid h3
        clear hall hu hin
        go_wp2_with (go_at_call 68; refine (max_any _ _ _ _ (by omega) hg0 (hLh.out.below (by assumption))).mono ?_; rintro e w2 ⟨rfl, rfl⟩)
        go_ret
        exact ⟨ret_bool hv.out.symm, (by repeat (first | exact Below.refl _ _ | assumption | refine Below.drew ?_ | refine below_drewN ?_ _ | refine Below.alloc' ?_ _ | (refine Below.setCell ?_ (by first | omega | (simp; done) | (simp; omega) | exact Below.size (by assumption) | exact Nat.le_trans (Below.size (by assumption)) (by simp)) _) | (refine Below.via' ?_ (by assumption)) | (refine Below.alloc ?_ (by first | omega | (simp; done) | (simp; omega) | exact Below.size (by assumption) | exact Nat.le_trans (Below.size (by assumption)) (by simp)) _) | (refine Below.via ?_ (by assumption) (by first | omega | (simp; done) | (simp; omega) | exact Below.size (by assumption) | exact Nat.le_trans (Below.size (by assumption)) (by simp)))))⟩
      · have hv := Lib.hid (gs_gap h3)
        have h3' : (mxZ G == ((metL G).length : Int) - 1) = false := by rw [beq_eq_false_iff_ne]; exact h3
        replace h3 := Lib.hid h3
        clear hall hu hin
        go_wp2_with (go_at_call 68; refine (max_any _ _ _ _ (by omega) hg0 (hLh.out.below (by assumption))).mono ?_; rintro e w2 ⟨rfl, rfl⟩)
        go_ret
        exact ⟨ret_bool hv.out.symm, (by repeat (first | exact Below.refl _ _ | assumption | refine Below.drew ?_ | refine below_drewN ?_ _ | refine Below.alloc' ?_ _ | (refine Below.setCell ?_ (by first | omega | (simp; done) | (simp; omega) | exact Below.size (by assumption) | exact Nat.le_trans (Below.size (by assumption)) (by simp)) _) | (refine Below.via' ?_ (by assumption)) | (refine Below.alloc ?_ (by first | omega | (simp; done) | (simp; omega) | exact Below.size (by assumption) | exact Nat.le_trans (Below.size (by assumption)) (by simp)) _) | (refine Below.via ?_ (by assumption) (by first | omega | (simp; done) | (simp; omega) | exact Below.size (by assumption) | exact Nat.le_trans (Below.size (by assumption)) (by simp)))))⟩
end Go.Proofs.YtcmfoclalcmamabGreatDoor
