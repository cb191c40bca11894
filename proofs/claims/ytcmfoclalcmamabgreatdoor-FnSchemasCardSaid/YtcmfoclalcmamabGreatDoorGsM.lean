/-
  Plain mathematics of chapter 2: a grouped schema is a schema, and grouped values suit it. No program's text.
-/
import Derived.Test.YtcmfoclalcmamabGreatDoorGrpT
import Derived.Test.YtcmfoclalcmamabGreatDoorGrpS
namespace Go.Proofs.YtcmfoclalcmamabGreatDoor
open Go.RowKit

theorem at_pr {S : List (ByteArray × Int)} {j : Nat} (h : j < S.length) : S[j]? = some (S[j].1, S[j].2) := List.getElem?_eq_getElem h
theorem ky_set {S : List (ByteArray × Int)} {k : Nat} {nm : ByteArray} {lv z : Int} (h : S[k]? = some (nm, lv)) : ky (S.set k (nm, z)) = ky S := by
  unfold ky
  rw [List.map_set]
  apply List.ext_getElem?
  intro j
  rw [List.getElem?_set]
  split
  · rename_i e
    subst e
    have hk := (List.getElem?_eq_some_iff.1 h).1
    rw [if_pos (by simpa using hk), List.getElem?_map, h]
    rfl
  · rfl
/-- A grouped schema is a schema; its number of groups lies between. -/
theorem gs_schema {S : List (ByteArray × Int)} {v : Int} {G : List Int} (hs : schB S = true) (hg : gvB S v G = true) : schB (gsL S v G) = true := by
  obtain ⟨k, nm, lv, rfl, hk, hl, hgs⟩ := gvB_get hg
  obtain ⟨a, b, c⟩ := gsB_get hgs
  obtain ⟨l1, l2⟩ := schB_lv hs hk
  have hz : gvZ S k G = (metL G).length := gvZ_yes hg
  have hm := metL_len G
  rw [(gs_yes2 hs hg hk).2]
  obtain ⟨s1, s2⟩ := schB_len hs
  rw [schB_of (by simpa using s1) (by simpa using s2), upB_iff, ky_set hk]
  obtain ⟨u1, u2⟩ := (upB_iff S).1 (schB_up hs)
  refine ⟨fun p hp => ?_, u2⟩
  rcases List.mem_or_eq_of_mem_set hp with hp | rfl
  · exact u1 p hp
  · have hv := u1 _ (List.mem_of_getElem? hk)
    unfold vaB at hv ⊢
    rw [Bool.and_eq_true] at hv ⊢
    exact ⟨hv.1, (lvB_iff _).2 (by omega)⟩
/-- Grouped values suit it. -/
theorem gw_fits {S : List (ByteArray × Int)} {v : Int} {G V : List Int} (h : gwB S v G V = true) : schB S = true ∧ gvB S v G = true ∧ igB S v G = true ∧ fitB (gsL S v G) (gwL S v G V) = true := by
  have h' := h
  unfold gwB igB at h'
  rw [Bool.and_eq_true, Bool.and_eq_true] at h'
  obtain ⟨⟨hs, hg⟩, hf⟩ := h'
  refine ⟨hs, hg, by unfold igB; rw [hs, hg]; rfl, ?_⟩
  obtain ⟨k, nm, lv, rfl, hk, hl, hgs⟩ := gvB_get hg
  obtain ⟨a, b, c⟩ := gsB_get hgs
  have hz : gvZ S k G = (metL G).length := gvZ_yes hg
  have hkl := (List.getElem?_eq_some_iff.1 hk).1
  have hVl := fit_len hf
  have hVk : V[k]? = some (V[k]'(by omega)) := List.getElem?_eq_getElem (by omega)
  obtain ⟨f1, f2⟩ := fit_get hf hk hVk
  obtain ⟨n, hn⟩ := Int.eq_ofNat_of_zero_le f1
  have hnl : n < G.length := by omega
  have hGn : G[n]? = some G[n] := List.getElem?_eq_getElem hnl
  have hmem : G[n] ∈ G := List.getElem_mem hnl
  have htop := mx_top hmem
  have hlow : 0 ≤ G[n] := by
    have : inB G[n] 0 7 = true := by
      unfold inR at a
      rw [List.all_eq_true] at a
      exact a _ hmem
    exact ((inB_iff _ _ _).1 this).1
  rw [(gs_yes2 hs hg hk).2, (gw_yes hs hg hf (by rw [hVk, hn]) hGn).2]
  refine fit_all (by simpa using hVl) (fun j hj => ?_)
  have hj' : j < S.length := by simpa using hj
  by_cases e : j = k
  · subst e
    refine ⟨nm, gvZ S j G, G[n], ?_, ?_, hlow, by omega⟩
    · rw [List.getElem?_set_self hkl]
    · rw [List.getElem?_set_self (by omega)]
  · have hVj : V[j]? = some (V[j]'(by omega)) := List.getElem?_eq_getElem (by omega)
    obtain ⟨g1, g2⟩ := fit_get hf (at_pr hj') hVj
    exact ⟨_, _, _, by rw [List.getElem?_set_ne (fun h => e h.symm)]; exact at_pr hj', by rw [List.getElem?_set_ne (fun h => e h.symm)]; exact hVj, g1, g2⟩
end Go.Proofs.YtcmfoclalcmamabGreatDoor
