/-
  Plain mathematics for the law of schemas: the values with an index have that index; grouped values suit the grouped schema. No program's text.
-/
import Derived.Test.YtbglogaljjfnnaaGreatDoorAt
import Derived.Test.YtbglogaljjfnnaaGreatDoorGrpT
import Derived.Test.YtbglogaljjfnnaaGreatDoorGrpS
namespace Go.Proofs.YtbglogaljjfnnaaGreatDoor
open Go.RowKit

theorem at_dig {S : List (ByteArray × Int)} (i : Int) {m : Nat} (hm : m < S.length) : ∀ d j, j + d = m → (atF S i j).2[m]? = some ((atF S i (m + 1)).1 % lvA S m)
  | 0, j, h => by
    obtain rfl : j = m := by omega
    rw [atF_step i hm]
    unfold atStp
    simp only
    rw [List.getElem?_set_self]
    have := atFr_len S i (cmL S.length (j + 1))
    unfold atF
    omega
  | d + 1, j, h => by
    rw [atF_step i (show j < S.length by omega)]
    unfold atStp
    simp only
    rw [List.getElem?_set_ne (by omega)]
    exact at_dig i hm d (j + 1) (by omega)
theorem at_q {S : List (ByteArray × Int)} (hs : schB S = true) {i : Int} (h0 : 0 ≤ i) (h1 : i < cnZ S) : ∀ d, d ≤ S.length → (atF S i (S.length - d)).1 < cnZ (S.take (S.length - d))
  | 0, _ => by
    rw [Nat.sub_zero, List.take_length, atF_end]
    exact h1
  | d + 1, h => by
    have ih := at_q hs h0 h1 d (by omega)
    obtain ⟨m, hm⟩ : ∃ m, S.length - (d + 1) = m := ⟨_, rfl⟩
    have e : S.length - d = m + 1 := by omega
    have hml : m < S.length := by omega
    rw [e, (cn_step hs (at_nm hml)).1] at ih
    rw [hm, atF_step i hml]
    unfold atStp
    simp only
    obtain ⟨l1, l2⟩ := lvA_bd hs hml
    exact Int.ediv_lt_of_lt_mul (by omega) ih
theorem at_back {S : List (ByteArray × Int)} (hs : schB S = true) {i : Int} (h0 : 0 ≤ i) (h1 : i < cnZ S) : ∀ m, m ≤ S.length → ixF ((S.zip (atL S i)).take m) = (atF S i m).1
  | 0, _ => by
    have h2 := at_q hs h0 h1 S.length (Nat.le_refl _)
    rw [Nat.sub_self] at h2
    have h3 := (atFr_bd hs h0 (cmL S.length 0) (fun j hj => cmL_lt hj)).1
    have e : cnZ (S.take 0) = 1 := rfl
    rw [e] at h2
    have h4 : (0 : Int) ≤ (atF S i 0).1 := h3
    have e2 : ixF ((S.zip (atL S i)).take 0) = 0 := rfl
    rw [e2]
    omega
  | m + 1, h => by
    have hml : m < S.length := h
    have ih := at_back hs h0 h1 m (by omega)
    have hd : (atL S i)[m]? = some ((atF S i (m + 1)).1 % lvA S m) := at_dig (S := S) i hml m 0 (by omega)
    rw [take_snoc (zip_at (at_nm hml) hd), ixF_snoc, ih]
    simp only
    rw [atF_step i hml]
    unfold atStp
    simp only
    have := Int.mul_ediv_add_emod (atF S i (m + 1)).1 (lvA S m)
    rw [Int.mul_comm] at this
    omega
theorem at_ix {S : List (ByteArray × Int)} (hs : schB S = true) {i : Int} (h0 : 0 ≤ i) (h1 : i < cnZ S) : ixZ S (atL S i) = i := by
  have h := at_back hs h0 h1 S.length (Nat.le_refl _)
  rw [atF_end, List.take_of_length_le (by rw [List.length_zip]; omega)] at h
  exact h
theorem at_fit {S : List (ByteArray × Int)} (hs : schB S = true) {i : Int} (h0 : 0 ≤ i) : fitB S (atL S i) = true := by
  refine fit_all (atL_len S i) (fun j hj => ?_)
  obtain ⟨l1, l2⟩ := lvA_bd hs hj
  have p := (atFr_bd hs h0 (cmL S.length (j + 1)) (fun k hk => cmL_lt hk)).1
  exact ⟨_, _, _, at_nm hj, at_dig (S := S) i hj j 0 (by omega), Int.emod_nonneg _ (by omega), Int.emod_lt_of_pos _ (by omega)⟩
theorem di_same (L : List Int) : diZ L L = 0 := by
  unfold diZ diF
  have : ∀ (L : List Int) (n : Int), (L.zip L).foldl (fun (n : Int) (q : Int × Int) => if q.1 = q.2 then n else n + 1) n = n := by
    intro L
    induction L with
    | nil => intro n; rfl
    | cons a r ih => intro n; simp [ih]
  exact this L 0
theorem ky_set {S : List (ByteArray × Int)} {k : Nat} {nm : ByteArray} {lv z : Int} (h : S[k]? = some (nm, lv)) : ky (S.set k (nm, z)) = ky S := by
  unfold ky
  rw [List.map_set]
  apply List.ext_getElem?
  intro j
  rw [List.getElem?_set]
  split
  · rename_i e
    subst e
    have hk := (List.getElem?_eq_some_iff.1 h).1
    rw [if_pos (by simpa using hk), List.getElem?_map, h]
    rfl
  · rfl
/-- A grouped schema is a schema; its number of groups lies between. -/
theorem gs_schema {S : List (ByteArray × Int)} {v : Int} {G : List Int} (hs : schB S = true) (hg : gvB S v G = true) : schB (gsL S v G) = true := by
  obtain ⟨k, nm, lv, rfl, hk, hl, hgs⟩ := gvB_get hg
  obtain ⟨a, b, c⟩ := gsB_get hgs
  obtain ⟨l1, l2⟩ := schB_lv hs hk
  have hz : gvZ S k G = (metL G).length := gvZ_yes hg
  have hm := metL_len G
  rw [(gs_yes2 hs hg hk).2]
  obtain ⟨s1, s2⟩ := schB_len hs
  rw [schB_of (by simpa using s1) (by simpa using s2), upB_iff, ky_set hk]
  obtain ⟨u1, u2⟩ := (upB_iff S).1 (schB_up hs)
  refine ⟨fun p hp => ?_, u2⟩
  rcases List.mem_or_eq_of_mem_set hp with hp | rfl
  · exact u1 p hp
  · have hv := u1 _ (List.mem_of_getElem? hk)
    unfold vaB at hv ⊢
    rw [Bool.and_eq_true] at hv ⊢
    exact ⟨hv.1, (lvB_iff _).2 (by omega)⟩
/-- Grouped values suit it. -/
theorem gw_fits {S : List (ByteArray × Int)} {v : Int} {G V : List Int} (h : gwB S v G V = true) : schB S = true ∧ gvB S v G = true ∧ igB S v G = true ∧ fitB (gsL S v G) (gwL S v G V) = true := by
  have h' := h
  unfold gwB igB at h'
  rw [Bool.and_eq_true, Bool.and_eq_true] at h'
  obtain ⟨⟨hs, hg⟩, hf⟩ := h'
  refine ⟨hs, hg, by unfold igB; rw [hs, hg]; rfl, ?_⟩
  obtain ⟨k, nm, lv, rfl, hk, hl, hgs⟩ := gvB_get hg
  obtain ⟨a, b, c⟩ := gsB_get hgs
  have hz : gvZ S k G = (metL G).length := gvZ_yes hg
  have hkl := (List.getElem?_eq_some_iff.1 hk).1
  have hVl := fit_len hf
  have hVk : V[k]? = some (V[k]'(by omega)) := List.getElem?_eq_getElem (by omega)
  obtain ⟨f1, f2⟩ := fit_get hf hk hVk
  obtain ⟨n, hn⟩ := Int.eq_ofNat_of_zero_le f1
  have hnl : n < G.length := by omega
  have hGn : G[n]? = some G[n] := List.getElem?_eq_getElem hnl
  have hmem : G[n] ∈ G := List.getElem_mem hnl
  have htop := mx_top hmem
  have hlow : 0 ≤ G[n] := by
    have : inB G[n] 0 7 = true := by
      unfold inR at a
      rw [List.all_eq_true] at a
      exact a _ hmem
    exact ((inB_iff _ _ _).1 this).1
  rw [(gs_yes2 hs hg hk).2, (gw_yes hs hg hf (by rw [hVk, hn]) hGn).2]
  refine fit_all (by simpa using hVl) (fun j hj => ?_)
  have hj' : j < S.length := by simpa using hj
  by_cases e : j = k
  · subst e
    refine ⟨nm, gvZ S j G, G[n], ?_, ?_, hlow, by omega⟩
    · rw [List.getElem?_set_self hkl]
    · rw [List.getElem?_set_self (by omega)]
  · have hVj : V[j]? = some (V[j]'(by omega)) := List.getElem?_eq_getElem (by omega)
    obtain ⟨g1, g2⟩ := fit_get hf (at_nm hj') hVj
    exact ⟨_, _, _, by rw [List.getElem?_set_ne (fun h => e h.symm)]; exact at_nm hj', by rw [List.getElem?_set_ne (fun h => e h.symm)]; exact hVj, g1, g2⟩
end Go.Proofs.YtbglogaljjfnnaaGreatDoor
