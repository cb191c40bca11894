/-
  Groups of numbers: how many there are, and that none is left out: mathematics; the program's walks (lists of Bools that are made).
-/
import Derived.Test.YtnmpigedhpdenabGrpW
import Derived.Test.YtnmpigedhpdenabAtS
namespace Go.Proofs.Ytnmpigedhpdenab
open Go.RowKit
set_option maxRecDepth 100000

theorem inc_ge {L : List Int} (hI : Inc L) (h0 : ∀ x ∈ L, 0 ≤ x) : ∀ (j : Nat) (v : Int), L[j]? = some v → (j : Int) ≤ v
  | 0, v, h => h0 v (List.mem_of_getElem? h)
  | j + 1, v, h => by
    obtain ⟨hl, e⟩ := List.getElem?_eq_some_iff.1 h
    have hj : j < L.length := by omega
    have h1 := inc_ge hI h0 j L[j] (List.getElem?_eq_getElem hj)
    have h2 := List.pairwise_iff_getElem.1 hI j (j + 1) hj hl (by omega)
    omega
theorem inc_le {L : List Int} (hI : Inc L) {m : Int} (hm : ∀ x ∈ L, x ≤ m) : ∀ (d j : Nat) (v : Int), j + d + 1 = L.length → L[j]? = some v → v + (d : Int) ≤ m
  | 0, j, v, _, h => by have := hm v (List.mem_of_getElem? h); omega
  | d + 1, j, v, hd, h => by
    obtain ⟨hl, e⟩ := List.getElem?_eq_some_iff.1 h
    have hj : j + 1 < L.length := by omega
    have h1 := inc_le hI hm d (j + 1) L[j + 1] (by omega) (List.getElem?_eq_getElem hj)
    have h2 := List.pairwise_iff_getElem.1 hI j (j + 1) hl hj (by omega)
    omega
theorem inc_full {L : List Int} (hI : Inc L) (h0 : ∀ x ∈ L, 0 ≤ x) (hne : L ≠ []) : (∀ k : Nat, k < L.length → (k : Int) ∈ L) ↔ lsZ L = (L.length : Int) - 1 := by
  obtain ⟨t1, t2⟩ := lsZ_top hI hne
  have hpos := List.length_pos_iff.2 hne
  constructor
  · intro h
    have key : ∀ k : Nat, k < L.length → ∃ p, k ≤ p ∧ L[p]? = some (k : Int) := by
      intro k
      induction k with
      | zero =>
        intro hk
        obtain ⟨p, hp, e⟩ := List.getElem_of_mem (h 0 hk)
        exact ⟨p, Nat.zero_le _, by rw [List.getElem?_eq_getElem hp, e]⟩
      | succ k ih =>
        intro hk
        obtain ⟨p, hp, e⟩ := ih (by omega)
        obtain ⟨q, hq, e2⟩ := List.getElem_of_mem (h (k + 1) hk)
        refine ⟨q, ?_, by rw [List.getElem?_eq_getElem hq, e2]⟩
        obtain ⟨hpl, e1⟩ := List.getElem?_eq_some_iff.1 e
        rcases Nat.lt_or_ge p q with h1 | h1
        · omega
        · rcases Nat.lt_or_ge q p with h2 | h2
          · have := List.pairwise_iff_getElem.1 hI q p hq hpl h2
            omega
          · obtain rfl : p = q := by omega
            omega
    obtain ⟨p, hp, e⟩ := key (L.length - 1) (by omega)
    obtain ⟨hpl, e1⟩ := List.getElem?_eq_some_iff.1 e
    have hpe : p = L.length - 1 := by omega
    subst hpe
    rw [lsZ_at e]
    omega
  · intro h k hk
    have e := List.getElem?_eq_getElem hk
    have a := inc_ge hI h0 k L[k] e
    have b := inc_le hI t2 (L.length - 1 - k) k L[k] (by omega) e
    have : L[k] = (k : Int) := by rw [h] at b; omega
    rw [← this]
    exact List.getElem_mem hk
/-- Are the numbers 0 to n - 1, each at least once? How many are there? -/
def cgrB (G : List Int) : Bool := inR G 0 ((G.length : Int) - 1) && (List.range (metL G).length).all fun k : Nat => decide ((k : Int) ∈ G)
def cgrN (G : List Int) : Int := if inR G 0 ((G.length : Int) - 1) then ((metL G).length : Int) else 0
theorem cgr_out {G : List Int} {i : Nat} {v : Int} (h : G[i]? = some v) (hb : v < 0 ∨ (G.length : Int) ≤ v) : cgrB G = false ∧ cgrN G = 0 := by
  have : inR G 0 ((G.length : Int) - 1) = false := inR_bad h ((inB_no _ _ _).2 (by omega))
  constructor
  · unfold cgrB; rw [this]; rfl
  · unfold cgrN; rw [this]; rfl
theorem cgr_in {G : List Int} (h : ∀ j, j < G.length → ∃ v, G[j]? = some v ∧ 0 ≤ v ∧ v < (G.length : Int)) : cgrB G = ((List.range (metL G).length).all fun k : Nat => decide ((k : Int) ∈ G)) ∧ cgrN G = (metL G).length := by
  have : inR G 0 ((G.length : Int) - 1) = true := inR_all fun j hj => by
    obtain ⟨v, a, b, c⟩ := h j hj
    exact ⟨v, a, (inB_iff _ _ _).2 (by omega)⟩
  constructor
  · unfold cgrB; rw [this, Bool.true_and]
  · unfold cgrN; rw [this]; rfl
theorem cgrN_bd (G : List Int) : 0 ≤ cgrN G ∧ cgrN G ≤ G.length := by
  unfold cgrN
  have := metL_len G
  split <;> omega
theorem cgr_gs {G : List Int} (h8 : G.length ≤ 8) : (cgrB G && decide (2 ≤ cgrN G)) = gsB G := by
  rw [Bool.eq_iff_iff, Bool.and_eq_true, decide_eq_true_eq]
  constructor
  · rintro ⟨h1, h2⟩
    unfold cgrB at h1
    rw [Bool.and_eq_true, List.all_eq_true] at h1
    have hN : cgrN G = (metL G).length := by unfold cgrN; rw [h1.1]; rfl
    have hm : ∀ x ∈ G, 0 ≤ x ∧ x ≤ (G.length : Int) - 1 := fun x hx => by
      have := h1.1
      unfold inR at this
      rw [List.all_eq_true] at this
      exact (inB_iff _ _ _).1 (this x hx)
    have hne : metL G ≠ [] := by intro e; rw [hN, e] at h2; simp at h2
    refine gs_yes ?_ (by omega) ((inc_full (metL_inc G) (fun x hx => (hm x ((metL_mem G x).1 hx)).1) hne).1 fun k hk => (metL_mem G _).2 (of_decide_eq_true (h1.2 k (List.mem_range.2 hk))))
    unfold inR
    rw [List.all_eq_true]
    intro x hx
    have := hm x hx
    exact (inB_iff _ _ _).2 (by omega)
  · intro h
    obtain ⟨g1, g2, g3⟩ := gsB_get h
    have hml := metL_len G
    have hm : ∀ x ∈ G, 0 ≤ x ∧ x ≤ (G.length : Int) - 1 := fun x hx => by
      have h1 := g1
      unfold inR at h1
      rw [List.all_eq_true] at h1
      have h2 := (inB_iff _ _ _).1 (h1 x hx)
      have h3 := mx_top hx
      omega
    have hin : inR G 0 ((G.length : Int) - 1) = true := by
      unfold inR
      rw [List.all_eq_true]
      intro x hx
      exact (inB_iff _ _ _).2 (hm x hx)
    have hne : metL G ≠ [] := by intro e; rw [e] at g2; simp at g2
    have hfull := (inc_full (metL_inc G) (fun x hx => (hm x ((metL_mem G x).1 hx)).1) hne).2 g3
    constructor
    · unfold cgrB
      rw [hin, Bool.true_and, List.all_eq_true]
      intro k hk
      exact decide_eq_true ((metL_mem G _).1 (hfull k (List.mem_range.1 hk)))
    · unfold cgrN
      rw [hin]
      simp
      omega
/-- The cells of a list of Bools. -/
def bC (L : List Bool) : List Value := L.map Value.bool
theorem bC_len (L : List Bool) : (bC L).length = L.length := by unfold bC; simp
theorem bC_at {L : List Bool} {i : Nat} {v : Bool} (h : L[i]? = some v) : (bC L)[i]? = some (.bool v) := by unfold bC; rw [List.getElem?_map, h]; rfl
theorem Rd.bo {w : World} {x : Option Addr} {L : List Bool} {i : Nat} (h : Rd w x (bC L)) (hi : i < L.length) :
    ∃ b off v, x = some ⟨b, off, none⟩ ∧ b < w.heap.size ∧ L[i]? = some v ∧ w.cell? ⟨b, off + i, none⟩ = some (.bool v) := by
  rcases h with h | ⟨b, off, e, hl, hc⟩
  · have := bC_len L
    rw [h] at this
    simp at this
    omega
  · exact ⟨b, off, L[i], e, hl, List.getElem?_eq_getElem hi, hc i _ (bC_at (List.getElem?_eq_getElem hi))⟩
theorem Try.infoBool : (Try.prog.info? 4).map (fun i => (i.zero, i.size, i.bytes)) = some (some (.bool false), 1, 1) := by kernel_rfl
theorem made_bools (n : Nat) : (madeCells (Value.bool false).cells (n * 1)).toList = bC (List.replicate n false) := by
  unfold bC
  rw [Nat.mul_one, List.map_replicate]
  apply List.ext_getElem
  · simp [madeCells]
  intro i h1 h2
  simp [madeCells] at h1
  by_cases h : n = 0
  · omega
  · simp [madeCells, Value.cells, Nat.mod_one]
/-- Is a Bool in a list (closed to the walk)? -/
def btB (L : List Bool) (n : Bool) : Bool := L.contains n
set_option maxHeartbeats 1000000 in
theorem indexB_any (y : Option Addr) (c : Nat) (L : List Bool) (n : Bool) (w : World) (hm : L.length ≤ 1048576) (hL : Rd w y (bC L)) :
    Calls Try.prog 195 #[.slice y L.length c, .bool n] w fun e w' => ∃ k, e = .returned (.int .i64 k) ∧ (-1 ≤ k ∧ k < 1048577 ∧ decide (0 ≤ k) = L.contains n) ∧ w = w' := by
  have hLh := Lib.hid hL
  clear hL
  go_enter Try.func195, Try.ntmps195
  go_wp2
  go_loopw [8] (fun c wr => ∃ i : Nat, i ≤ L.length ∧ c = .int .i64 i ∧ Hid (∀ j, j < i → ¬ L[j]? = some n) ∧ w = wr) (fun c _ => L.length - (intOf c).toNat)
  case atStart => exact ⟨0, by omega, rfl, (fun j hj => absurd hj (by omega)), rfl⟩
  case round =>
    obtain ⟨i, hi, rfl, hall, rfl⟩ := hrel
    by_cases hlt : i < L.length
    · obtain ⟨bl, off, v, rfl, hbl, hLi, hc0⟩ := hLh.out.bo hlt
      have hLih := Lib.hid hLi
      have hlt' : (i : Int) < (L.length : Int) := by omega
      have hi0 : (0 : Int) ≤ (i : Int) := by omega
      clear hLi
      by_cases he : v = n
      · have hv : Hid (L.contains n = true) := by unfold Hid; rw [List.contains_iff_mem, ← he]; exact List.mem_of_getElem? hLih.out
        have heb : (n == v) = true := by rw [he]; exact beq_self_eq_true n
        replace he := Lib.hid he
        go_wp2
        go_ret
        exact ⟨_, rfl, ⟨by omega, by omega, by rw [hv.out]; exact decide_eq_true (by omega)⟩, rfl⟩
      · have heb : (n == v) = false := by cases n <;> cases v <;> simp_all
        have hne : Hid (¬ L[i]? = some n) := by unfold Hid; rw [hLih.out]; intro h; exact he (Option.some.inj h)
        replace he := Lib.hid he
        go_wp2
        go_roundw
        case rel =>
          refine ⟨i + 1, by omega, by go_num, fun j hj => ?_, by first | rfl | trivial⟩
          rcases Nat.lt_or_ge j i with hj2 | hj2
          · exact hall.out j hj2
          · obtain rfl : j = i := by omega
            exact hne.out
        case measure => simp [intOf]; omega
    · have hij : i = L.length := by omega
      subst hij
      have hv : Hid (L.contains n = false) := by
        unfold Hid
        cases h : L.contains n with
        | false => rfl
        | true =>
          rw [List.contains_iff_mem] at h
          obtain ⟨j, hj, e⟩ := List.getElem_of_mem h
          exact absurd (by rw [List.getElem?_eq_getElem hj, e]) (hall.out j hj)
      clear hall
      go_wp2
      go_ret
      exact ⟨_, rfl, ⟨by omega, by omega, by rw [hv.out]; exact decide_eq_false (by omega)⟩, rfl⟩
theorem containsB_any (y : Option Addr) (c : Nat) (L : List Bool) (n : Bool) (w : World) (hm : L.length ≤ 1048576) (hL : Rd w y (bC L)) :
    Calls Try.prog 165 #[.slice y L.length c, .bool n] w fun e w' => e = .returned (.bool (btB L n)) ∧ w = w' := by
  have hLh := Lib.hid hL
  clear hL
  go_enter Try.func165, Try.ntmps165
  go_wp2_with fail
  refine (indexB_any _ _ L n _ hm hLh.out).mono ?_
  rintro e w1 ⟨k, rfl, ⟨k1, k2, k3⟩, rfl⟩
  have hk := Lib.hid k3
  clear k3
  go_wp2
  go_ret
  exact ⟨ret_bool hk.out, rfl⟩
/-- Which numbers below n have come. -/
def usL (n : Nat) (P : List Int) : List Bool := (List.range n).map fun k : Nat => decide ((k : Int) ∈ P)
theorem usL_len (n : Nat) (P : List Int) : (usL n P).length = n := by unfold usL; simp
theorem usL_nil (n : Nat) : usL n [] = List.replicate n false := by
  unfold usL
  apply List.ext_getElem (by simp)
  intro i h1 h2
  simp
theorem usL_at {n k : Nat} (P : List Int) (h : k < n) : (usL n P)[k]? = some (decide ((k : Int) ∈ P)) := by unfold usL; simp [h]
theorem usL_same {n : Nat} {P : List Int} {v : Int} (h : v ∈ P) : usL n (P ++ [v]) = usL n P := by
  unfold usL
  apply List.map_congr_left
  intro k _
  rw [Bool.eq_iff_iff]
  simp only [decide_eq_true_eq, List.mem_append, List.mem_singleton]
  constructor
  · rintro (h1 | h1)
    · exact h1
    · rw [h1]; exact h
  · exact Or.inl
theorem usL_put {n k : Nat} (P : List Int) : usL n (P ++ [(k : Int)]) = (usL n P).set k true := by
  apply List.ext_getElem?
  intro j
  rw [List.getElem?_set]
  rcases Nat.lt_or_ge j n with hj | hj
  · rw [usL_at _ hj]
    split
    · subst_vars
      rw [if_pos (by rw [usL_len]; exact hj)]
      simp
    · rw [usL_at _ hj]
      congr 1
      rw [Bool.eq_iff_iff]
      simp only [decide_eq_true_eq, List.mem_append, List.mem_singleton]
      constructor
      · rintro (h1 | h1)
        · exact h1
        · omega
      · exact Or.inl
  · rw [List.getElem?_eq_none (by rw [usL_len]; exact hj)]
    split
    · rw [if_neg (by rw [usL_len]; omega)]
    · rw [List.getElem?_eq_none (by rw [usL_len]; exact hj)]
theorem usL_no {n c : Nat} (G : List Int) (h : c ≤ n) : (!btB ((usL n G).take c) false) = (List.range c).all fun k : Nat => decide ((k : Int) ∈ G) := by
  unfold btB
  rw [Bool.eq_iff_iff, Bool.not_eq_true', List.all_eq_true]
  have e : (usL n G).take c = (List.range c).map fun k : Nat => decide ((k : Int) ∈ G) := by
    unfold usL
    rw [← List.map_take, List.take_range, Nat.min_eq_left h]
  rw [e]
  constructor
  · intro h1 k hk
    cases hd : decide ((k : Int) ∈ G) with
    | true => rfl
    | false =>
      exfalso
      have : ((List.range c).map fun k : Nat => decide ((k : Int) ∈ G)).contains false = true := by
        rw [List.contains_iff_mem]
        exact List.mem_map.2 ⟨k, hk, hd⟩
      rw [this] at h1
      cases h1
  · intro h1
    cases hc : ((List.range c).map fun k : Nat => decide ((k : Int) ∈ G)).contains false with
    | false => rfl
    | true =>
      rw [List.contains_iff_mem] at hc
      obtain ⟨k, hk, e2⟩ := List.mem_map.1 hc
      rw [h1 k hk] at e2
      cases e2
theorem bC_set (L : List Bool) (k : Nat) (v : Bool) : (bC L).set k (.bool v) = bC (L.set k v) := by unfold bC; rw [List.map_set]
theorem bC_take (L : List Bool) (k : Nat) : bC (L.take k) = (bC L).take k := by unfold bC; rw [List.map_take]
set_option maxHeartbeats 4000000 in
theorem countGroups_any (x : Option Addr) (cap : Nat) (G : List Int) (w : World) (hm : G.length ≤ 1048576) (hL : Rd w x (iC G)) :
    Calls Try.prog 105 #[.slice x G.length cap] w fun e w' => e = .returned (.tuple #[.int .i64 (cgrN G), .bool (cgrB G)]) ∧ Below w.heap.size w w' := by
  obtain ⟨i0, hi, hz0, hz1, hz2⟩ := info_parts Try.infoBool
  have hbb : i0.bytes * G.length ≤ 281474976710656 := by rw [hz2]; omega
  have hmm : G.length ≤ maxLen := by unfold maxLen; omega
  have hLh := Lib.hid hL
  clear hL
  go_enter Try.func105, Try.ntmps105
  go_wp2_with (at_make; go_loud (refine wpList_make_full _ rfl _ _ 171 rfl w.heap.size 4 i0 (.bool false) 1 Try.underlying171 hi hz0 hz1 .i64 .i64 _ _ G.length rfl rfl rfl rfl hbb hmm (Nat.le_refl _) (fun w1 hown hgrow => ?_)))
  have hb1 : Below w.heap.size w w1 := (Below.refl _ _).grown hgrow (Nat.le_refl _) (by intro k hk; cases hk)
  rw [made_bools, ← usL_nil] at hown
  clear hgrow hi hz0 hz1 hz2
  go_loopw [5, 13] (fun q c wr => ∃ i : Nat, i ≤ G.length ∧ c = .int .i64 i ∧ q = .int .i64 ((metL (G.take i)).length : Nat) ∧ Hid (wr.ownsRow w.heap.size 4 1 (.slice (some ⟨w.heap.size, 0, none⟩) G.length G.length) G.length (bC (usL G.length (G.take i)))) ∧ Hid (∀ j, j < i → ∃ v, G[j]? = some v ∧ 0 ≤ v ∧ v < (G.length : Int)) ∧ Below w.heap.size w wr) (fun _ c _ => G.length - (intOf c).toNat)
  case atStart => exact ⟨0, by omega, rfl, rfl, by rw [List.take_zero]; exact hown, (fun j hj => absurd hj (by omega)), hb1⟩
  case round =>
    clear hown hb1
    obtain ⟨i, hil, rfl, rfl, hu, hall, hb⟩ := hrel
    have hml : (metL (G.take i)).length ≤ i := by
      have := metL_len (G.take i)
      rw [List.length_take] at this
      omega
    by_cases hlt : i < G.length
    · obtain ⟨bl, off, v, hx, hbl, hGi, hc⟩ := (hLh.out.below hb).int hlt
      subst hx
      have hlt' : (i : Int) < (G.length : Int) := by omega
      by_cases h1 : v < 0
      · have hv := Lib.hid (cgr_out hGi (Or.inl h1))
        clear hGi
        go_wp2
        go_ret2
        exact ⟨ret_in hv.out.2.symm hv.out.1.symm, hb⟩
      by_cases h2 : (G.length : Int) ≤ v
      · have hv := Lib.hid (cgr_out hGi (Or.inr h2))
        clear hGi
        go_wp2
        go_ret2
        exact ⟨ret_in hv.out.2.symm hv.out.1.symm, hb⟩
      obtain ⟨k, rfl⟩ := Int.eq_ofNat_of_zero_le (show 0 ≤ v by omega)
      have hkl : k < G.length := by omega
      have hkl' : (k : Int) < (G.length : Int) := by omega
      have hstep := Lib.hid (met_step hGi)
      have htk := Lib.hid (take_snoc hGi)
      obtain ⟨u, huu, u0⟩ := own_cell hu.out (j := k) (by omega)
      have e0 : u = .bool (decide ((k : Int) ∈ G.take i)) := Option.some.inj (huu.symm.trans (bC_at (usL_at _ hkl)))
      rw [e0] at u0
      have u1 := hu.out.frozenAt k
      have u2 := (own_lt hu.out).2
      have hall2 : Hid (∀ j, j < i + 1 → ∃ v, G[j]? = some v ∧ 0 ≤ v ∧ v < (G.length : Int)) := fun j hj => by
        rcases Nat.lt_or_ge j i with h | h
        · exact hall.out j h
        · obtain rfl : j = i := by omega
          exact ⟨k, hGi, by omega, by omega⟩
      clear hGi huu e0
      by_cases hin : (k : Int) ∈ G.take i
      · rw [decide_eq_true hin] at u0
        have hu2 := Lib.hid (usL_same (n := G.length) hin)
        have hcnt : Hid (((metL (G.take (i + 1))).length : Int) = (metL (G.take i)).length) := by unfold Hid; rw [hstep.out, if_pos hin]
        replace hin := Lib.hid hin
        go_wp2
        go_roundw
        case rel => exact ⟨i + 1, by omega, by go_num, by rw [hcnt.out], by rw [htk.out, hu2.out]; exact hu.out, hall2.out, hb⟩
        case measure => simp [intOf]; omega
      · rw [decide_eq_false hin] at u0
        have hu2 := Lib.hid (usL_put (n := G.length) (k := k) (G.take i))
        have hcnt : Hid (((metL (G.take (i + 1))).length : Int) = (metL (G.take i)).length + 1) := by unfold Hid; rw [hstep.out, if_neg hin]
        have hst := Lib.hid (hu.out.stored k (.bool true)).1
        replace hin := Lib.hid hin
        have hms : (metL (G.take i)).length ≤ 1048576 := by omega
        go_wp2
        go_roundw
        case rel => exact ⟨i + 1, by omega, by go_num, by rw [hcnt.out], by rw [htk.out, hu2.out, ← bC_set]; exact hst.out, hall2.out, (by repeat (first | exact Below.refl _ _ | assumption | refine Below.drew ?_ | refine below_drewN ?_ _ | refine Below.alloc' ?_ _ | (refine Below.setCell ?_ (by first | omega | (simp; done) | (simp; omega) | exact Below.size (by assumption) | exact Nat.le_trans (Below.size (by assumption)) (by simp)) _) | (refine Below.via' ?_ (by assumption)) | (refine Below.alloc ?_ (by first | omega | (simp; done) | (simp; omega) | exact Below.size (by assumption) | exact Nat.le_trans (Below.size (by assumption)) (by simp)) _) | (refine Below.via ?_ (by assumption) (by first | omega | (simp; done) | (simp; omega) | exact Below.size (by assumption) | exact Nat.le_trans (Below.size (by assumption)) (by simp)))))⟩
        case measure => simp [intOf]; omega
    · have hij : i = G.length := by omega
      subst hij
      rw [List.take_length]
      have hin := Lib.hid (cgr_in hall.out)
      rw [List.take_length] at hml
      have hno := Lib.hid (usL_no (n := G.length) G hml)
      obtain ⟨n, hn⟩ : ∃ n, n = (metL G).length := ⟨_, rfl⟩
      rw [← hn] at hml hno ⊢
      have hml' : (n : Int) ≤ (G.length : Int) := by omega
      have htl : ((usL G.length G).take n).length = n := by rw [List.length_take, usL_len]; omega
      have hrd : Hid (Rd wr (some ⟨w.heap.size, 0, none⟩) (bC ((usL G.length G).take n))) := by
        have h0 := Rd.of_own hu.out
        rw [List.take_length] at h0
        unfold Hid
        rw [bC_take]
        exact h0.take n
      have hcall := containsB_any (some ⟨w.heap.size, 0, none⟩) G.length ((usL G.length G).take n) false wr (by omega) hrd.out
      rw [htl] at hcall
      replace hn := Lib.hid hn
      clear hall hu htl
      go_wp2_with fail
      refine hcall.mono ?_
      rintro e w2 ⟨rfl, rfl⟩
      clear hcall
      go_wp2
      go_ret2
      exact ⟨ret_in (by rw [hin.out.2, hn.out]) (by rw [hin.out.1, hno.out, hn.out]), hb⟩
end Go.Proofs.Ytnmpigedhpdenab
