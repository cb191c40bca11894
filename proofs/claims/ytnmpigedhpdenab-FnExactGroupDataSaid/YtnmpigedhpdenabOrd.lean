/-
  The order of records: by area, by house, by the values; sorted lists. Plain mathematics. No program's text.
-/
import Derived.Test.YtnmpigedhpdenabRec
namespace Go.Proofs.Ytnmpigedhpdenab

/-- Lists in lexicographic order: -1, 0 or 1. -/
def lxZ : List Int → List Int → Int
  | [], [] => 0
  | [], _ :: _ => -1
  | _ :: _, [] => 1
  | a :: x, b :: y => if a < b then -1 else if b < a then 1 else lxZ x y
/-- Two numbers. -/
def cmZ (a b : Int) : Int := if a < b then -1 else if b < a then 1 else 0
def RV.key (p : RV) : List Int := p.1 :: p.2.1 :: p.2.2
/-- Two records. -/
def rcZ (p q : RV) : Int := lxZ (RV.key p) (RV.key q)
theorem lxZ_nilnil : lxZ [] [] = 0 := by unfold lxZ; rfl
theorem lxZ_nilcons (b : Int) (y : List Int) : lxZ [] (b :: y) = -1 := by unfold lxZ; rfl
theorem lxZ_consnil (a : Int) (x : List Int) : lxZ (a :: x) [] = 1 := by unfold lxZ; rfl
theorem lxZ_cons (a b : Int) (x y : List Int) : lxZ (a :: x) (b :: y) = if a < b then -1 else if b < a then 1 else lxZ x y := by rw [lxZ]
theorem lxZ_self : ∀ x : List Int, lxZ x x = 0
  | [] => lxZ_nilnil
  | a :: x => by rw [lxZ_cons, if_neg (by omega), if_neg (by omega), lxZ_self x]
theorem lxZ_neg : ∀ x y : List Int, lxZ y x = - lxZ x y
  | [], [] => by rw [lxZ_nilnil]; rfl
  | [], b :: y => by rw [lxZ_nilcons, lxZ_consnil]; rfl
  | a :: x, [] => by rw [lxZ_nilcons, lxZ_consnil]
  | a :: x, b :: y => by
    rw [lxZ_cons, lxZ_cons]
    by_cases h1 : a < b
    · rw [if_neg (by omega), if_pos h1, if_pos h1]; rfl
    · by_cases h2 : b < a
      · rw [if_pos h2, if_neg h1, if_pos h2]
      · rw [if_neg h2, if_neg h1, if_neg h1, if_neg h2, lxZ_neg x y]
theorem lxZ_bd : ∀ x y : List Int, lxZ x y = -1 ∨ lxZ x y = 0 ∨ lxZ x y = 1
  | [], [] => by rw [lxZ_nilnil]; simp
  | [], b :: y => by rw [lxZ_nilcons]; simp
  | a :: x, [] => by rw [lxZ_consnil]; simp
  | a :: x, b :: y => by
    rw [lxZ_cons]
    split
    · simp
    · split
      · simp
      · exact lxZ_bd x y
theorem lxZ_zero : ∀ {x y : List Int}, lxZ x y = 0 → x = y
  | [], [], _ => rfl
  | [], b :: y, h => by rw [lxZ_nilcons] at h; cases h
  | a :: x, [], h => by rw [lxZ_consnil] at h; cases h
  | a :: x, b :: y, h => by
    rw [lxZ_cons] at h
    split at h
    · cases h
    · split at h
      · cases h
      · rw [lxZ_zero h, show a = b by omega]
theorem lxZ_trans : ∀ {x y z : List Int}, lxZ x y ≤ 0 → lxZ y z ≤ 0 → lxZ x z ≤ 0
  | [], _, [], _, _ => by rw [lxZ_nilnil]; omega
  | [], _, _ :: _, _, _ => by rw [lxZ_nilcons]; omega
  | a :: x, [], _, h, _ => by rw [lxZ_consnil] at h; omega
  | a :: x, b :: y, [], _, h => by rw [lxZ_consnil] at h; omega
  | a :: x, b :: y, c :: z, h1, h2 => by
    rw [lxZ_cons] at h1 h2 ⊢
    split at h1
    · split at h2
      · rw [if_pos (by omega)]; omega
      · split at h2
        · omega
        · rw [if_pos (by omega)]; omega
    · split at h1
      · omega
      · split at h2
        · rw [if_pos (by omega)]; omega
        · split at h2
          · omega
          · rw [if_neg (by omega), if_neg (by omega)]
            exact lxZ_trans h1 h2
theorem key_inj {p q : RV} (h : RV.key p = RV.key q) : p = q := by
  unfold RV.key at h
  injection h with h1 h2
  injection h2 with h2 h3
  exact Prod.ext h1 (Prod.ext h2 h3)
theorem rcZ_self (p : RV) : rcZ p p = 0 := lxZ_self _
theorem rcZ_neg (p q : RV) : rcZ q p = - rcZ p q := lxZ_neg _ _
theorem rcZ_zero {p q : RV} (h : rcZ p q = 0) : p = q := key_inj (lxZ_zero h)
theorem rcZ_trans {p q r : RV} (h : rcZ p q ≤ 0) (k : rcZ q r ≤ 0) : rcZ p r ≤ 0 := lxZ_trans h k
theorem rcZ_bd (p q : RV) : rcZ p q = -1 ∨ rcZ p q = 0 ∨ rcZ p q = 1 := lxZ_bd _ _
theorem rcZ_of (p q : RV) : rcZ p q = if p.1 < q.1 then -1 else if q.1 < p.1 then 1 else if p.2.1 < q.2.1 then -1 else if q.2.1 < p.2.1 then 1 else lxZ p.2.2 q.2.2 := by
  unfold rcZ RV.key
  rw [lxZ_cons, lxZ_cons]

/-- Not after. -/
def leR (p q : RV) : Bool := decide (rcZ p q ≤ 0)
theorem leR_iff (p q : RV) : leR p q = true ↔ rcZ p q ≤ 0 := by unfold leR; simp
theorem leR_tr (a b c : RV) : leR a b = true → leR b c = true → leR a c = true := by rw [leR_iff, leR_iff, leR_iff]; exact rcZ_trans
theorem leR_to (a b : RV) : (leR a b || leR b a) = true := by
  rw [Bool.or_eq_true, leR_iff, leR_iff]
  have := rcZ_neg a b
  omega
theorem leR_anti {a b : RV} (h : leR a b = true) (k : leR b a = true) : a = b := by
  rw [leR_iff] at h k
  have := rcZ_neg a b
  exact rcZ_zero (by omega)
/-- The records in order. -/
def srt (L : List RV) : List RV := L.mergeSort leR
def isS (L : List RV) : Prop := L.Pairwise fun a b => leR a b = true
theorem srt_perm (L : List RV) : (srt L).Perm L := List.mergeSort_perm L leR
theorem srt_pw (L : List RV) : isS (srt L) := List.pairwise_mergeSort leR_tr leR_to L
theorem srt_len (L : List RV) : (srt L).length = L.length := (srt_perm L).length_eq
/-- There is but one list in order with the same records. -/
theorem srt_uniq {L M : List RV} (hp : M.Perm L) (hs : isS M) : M = srt L :=
  List.Perm.eq_of_pairwise (le := fun a b => leR a b = true) (fun _ _ _ _ h1 h2 => leR_anti h1 h2) hs (srt_pw L) (hp.trans (srt_perm L).symm)
/-- A record is put behind all that are not after it. -/
theorem isS_put {L : List RV} {r : RV} {k : Nat} (hs : isS L) (h1 : ∀ p ∈ L.drop k, leR r p = true) (h2 : k = 0 ∨ ∃ p, L[k - 1]? = some p ∧ leR p r = true) : isS (L.take k ++ r :: L.drop k) := by
  unfold isS at hs ⊢
  rw [← List.take_append_drop k L, List.pairwise_append] at hs
  obtain ⟨s1, s2, s3⟩ := hs
  refine List.pairwise_append.2 ⟨s1, List.pairwise_cons.2 ⟨h1, s2⟩, fun a ha b hb => ?_⟩
  have har : leR a r = true := by
    rcases h2 with h2 | ⟨p, hp, hpr⟩
    · subst h2; simp at ha
    · obtain ⟨j, hj, e⟩ := List.mem_take_iff_getElem.1 ha
      by_cases hjk : j = k - 1
      · subst hjk
        rw [List.getElem?_eq_getElem (by omega)] at hp
        injection hp with hp
        rw [← e, hp]
        exact hpr
      · have hkl : k - 1 < L.length := (List.getElem?_eq_some_iff.1 hp).1
        have : leR L[j] L[k - 1] = true := by
          have hpw := s1
          rw [List.pairwise_iff_getElem] at hpw
          have := hpw j (k - 1) (by rw [List.length_take]; omega) (by rw [List.length_take]; omega) (by omega)
          simpa using this
        rw [List.getElem?_eq_getElem hkl] at hp
        injection hp with hp
        rw [← e]
        exact leR_tr _ _ _ this (by rw [hp]; exact hpr)
  rcases List.mem_cons.1 hb with rfl | hb
  · exact har
  · exact s3 a ha b hb
theorem put_perm {α : Type} (L : List α) (r : α) (k : Nat) : (L.take k ++ r :: L.drop k).Perm (L ++ [r]) := by
  have : (L.take k ++ r :: L.drop k).Perm (r :: (L.take k ++ L.drop k)) := List.perm_middle
  rw [List.take_append_drop] at this
  exact this.trans (List.perm_append_singleton r L).symm
/-- Two lists are the same if and only if their sorted lists are equal, record by record. -/
def sameB (A B : List RV) : Bool := decide (srt A = srt B)

/-- Is it a record, are they data, for a valid schema? -/
def rokB (S : List (ByteArray × Int)) (q : RV) : Bool := inB q.1 0 29 && inB q.2.1 0 999 && fitB S q.2.2
def dokB (S : List (ByteArray × Int)) (Q : List RV) : Bool := decide (Q.length ≤ 40) && Q.all (rokB S)
theorem dokB_len {S : List (ByteArray × Int)} {Q : List RV} (h : dokB S Q = true) : Q.length ≤ 40 := by
  unfold dokB at h
  simp only [Bool.and_eq_true, decide_eq_true_eq] at h
  exact h.1
theorem dokB_mem {S : List (ByteArray × Int)} {Q : List RV} (h : dokB S Q = true) {q : RV} (hq : q ∈ Q) : rokB S q = true := by
  unfold dokB at h
  simp only [Bool.and_eq_true, decide_eq_true_eq, List.all_eq_true] at h
  exact h.2 q hq
theorem dokB_long {S : List (ByteArray × Int)} {Q : List RV} (h : 40 < Q.length) : dokB S Q = false := by unfold dokB; rw [decide_eq_false (by omega)]; rfl
theorem dokB_bad {S : List (ByteArray × Int)} {Q : List RV} {i : Nat} {q : RV} (h : Q[i]? = some q) (hq : rokB S q = false) : dokB S Q = false := by
  unfold dokB
  rw [Bool.and_eq_false_iff]
  right
  rw [List.all_eq_false]
  exact ⟨q, List.mem_of_getElem? h, by rw [hq]; simp⟩
theorem dokB_all {S : List (ByteArray × Int)} {Q : List RV} (h : ∀ j, j < Q.length → ∃ q, Q[j]? = some q ∧ rokB S q = true) : dokB S Q = decide (Q.length ≤ 40) := by
  unfold dokB
  have : Q.all (rokB S) = true := by
    rw [List.all_eq_true]
    intro q hq
    obtain ⟨j, hj, e⟩ := List.getElem_of_mem hq
    obtain ⟨p, hp, hr⟩ := h j hj
    rw [List.getElem?_eq_getElem hj, e] at hp
    injection hp with hp
    rw [hp]; exact hr
  rw [this, Bool.and_true]
theorem rokB_get {S : List (ByteArray × Int)} {q : RV} (h : rokB S q = true) : 0 ≤ q.1 ∧ q.1 ≤ 29 ∧ 0 ≤ q.2.1 ∧ q.2.1 ≤ 999 ∧ fitB S q.2.2 = true := by
  unfold rokB at h
  rw [Bool.and_eq_true, Bool.and_eq_true, inB_iff, inB_iff] at h
  exact ⟨h.1.1.1, h.1.1.2, h.1.2.1, h.1.2.2, h.2⟩
/-- A schema, a record; a schema, data. -/
def irB (S : List (ByteArray × Int)) (q : RV) : Bool := schB S && rokB S q
def idB (S : List (ByteArray × Int)) (Q : List RV) : Bool := schB S && dokB S Q
end Go.Proofs.Ytnmpigedhpdenab
