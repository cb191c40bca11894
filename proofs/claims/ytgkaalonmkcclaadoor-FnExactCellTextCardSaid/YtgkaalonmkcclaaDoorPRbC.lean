import Derived.Test.YtgkaalonmkcclaaDoorRec
import Derived.Test.YtgkaalonmkcclaaDoorPRbB
import Derived.Test.YtgkaalonmkcclaaDoorPts
import Derived.Test.YtgkaalonmkcclaaDoorEdT
import Derived.Test.YtgkaalonmkcclaaDoorTxt
import Derived.Test.YtgkaalonmkcclaaDoorSchN
import Derived.Test.YtgkaalonmkcclaaDoorApp
import Derived.Deep.AppendLies
import Derived.Test.YtgkaalonmkcclaaDoorEdW
import Derived.Test.YtgkaalonmkcclaaDoorShelf
import Derived.Deep.RegionLaw
namespace Go.Proofs.YtgkaalonmkcclaaDoor

/-- Lists in lexicographic order: -1, 0 or 1. -/
def lxZ : List Int → List Int → Int
  | [], [] => 0
  | [], _ :: _ => -1
  | _ :: _, [] => 1
  | a :: x, b :: y => if a < b then -1 else if b < a then 1 else lxZ x y
/-- Two numbers. -/
def cmZ (a b : Int) : Int := if a < b then -1 else if b < a then 1 else 0
def RV.key (p : RV) : List Int := p.1 :: p.2.1 :: p.2.2
/-- Two records. -/
def rcZ (p q : RV) : Int := lxZ (RV.key p) (RV.key q)
theorem lxZ_nilnil : lxZ [] [] = 0 := by unfold lxZ; rfl
theorem lxZ_nilcons (b : Int) (y : List Int) : lxZ [] (b :: y) = -1 := by unfold lxZ; rfl
theorem lxZ_consnil (a : Int) (x : List Int) : lxZ (a :: x) [] = 1 := by unfold lxZ; rfl
theorem lxZ_cons (a b : Int) (x y : List Int) : lxZ (a :: x) (b :: y) = if a < b then -1 else if b < a then 1 else lxZ x y := by rw [lxZ]
theorem lxZ_self : ∀ x : List Int, lxZ x x = 0
  | [] => lxZ_nilnil
  | a :: x => by rw [lxZ_cons, if_neg (by omega), if_neg (by omega), lxZ_self x]
theorem lxZ_neg : ∀ x y : List Int, lxZ y x = - lxZ x y
  | [], [] => by rw [lxZ_nilnil]; rfl
  | [], b :: y => by rw [lxZ_nilcons, lxZ_consnil]; rfl
  | a :: x, [] => by rw [lxZ_nilcons, lxZ_consnil]
  | a :: x, b :: y => by
    rw [lxZ_cons, lxZ_cons]
    by_cases h1 : a < b
    · rw [if_neg (by omega), if_pos h1, if_pos h1]; rfl
    · by_cases h2 : b < a
      · rw [if_pos h2, if_neg h1, if_pos h2]
      · rw [if_neg h2, if_neg h1, if_neg h1, if_neg h2, lxZ_neg x y]
theorem lxZ_bd : ∀ x y : List Int, lxZ x y = -1 ∨ lxZ x y = 0 ∨ lxZ x y = 1
  | [], [] => by rw [lxZ_nilnil]; simp
  | [], b :: y => by rw [lxZ_nilcons]; simp
  | a :: x, [] => by rw [lxZ_consnil]; simp
  | a :: x, b :: y => by
    rw [lxZ_cons]
    split
    · simp
    · split
      · simp
      · exact lxZ_bd x y
theorem lxZ_zero : ∀ {x y : List Int}, lxZ x y = 0 → x = y
  | [], [], _ => rfl
  | [], b :: y, h => by rw [lxZ_nilcons] at h; cases h
  | a :: x, [], h => by rw [lxZ_consnil] at h; cases h
  | a :: x, b :: y, h => by
    rw [lxZ_cons] at h
    split at h
    · cases h
    · split at h
      · cases h
      · rw [lxZ_zero h, show a = b by omega]
theorem lxZ_trans : ∀ {x y z : List Int}, lxZ x y ≤ 0 → lxZ y z ≤ 0 → lxZ x z ≤ 0
  | [], _, [], _, _ => by rw [lxZ_nilnil]; omega
  | [], _, _ :: _, _, _ => by rw [lxZ_nilcons]; omega
  | a :: x, [], _, h, _ => by rw [lxZ_consnil] at h; omega
  | a :: x, b :: y, [], _, h => by rw [lxZ_consnil] at h; omega
  | a :: x, b :: y, c :: z, h1, h2 => by
    rw [lxZ_cons] at h1 h2 ⊢
    split at h1
    · split at h2
      · rw [if_pos (by omega)]; omega
      · split at h2
        · omega
        · rw [if_pos (by omega)]; omega
    · split at h1
      · omega
      · split at h2
        · rw [if_pos (by omega)]; omega
        · split at h2
          · omega
          · rw [if_neg (by omega), if_neg (by omega)]
            exact lxZ_trans h1 h2
theorem key_inj {p q : RV} (h : RV.key p = RV.key q) : p = q := by
  unfold RV.key at h
  injection h with h1 h2
  injection h2 with h2 h3
  exact Prod.ext h1 (Prod.ext h2 h3)
theorem rcZ_self (p : RV) : rcZ p p = 0 := lxZ_self _
theorem rcZ_neg (p q : RV) : rcZ q p = - rcZ p q := lxZ_neg _ _
theorem rcZ_zero {p q : RV} (h : rcZ p q = 0) : p = q := key_inj (lxZ_zero h)
theorem rcZ_trans {p q r : RV} (h : rcZ p q ≤ 0) (k : rcZ q r ≤ 0) : rcZ p r ≤ 0 := lxZ_trans h k
theorem rcZ_bd (p q : RV) : rcZ p q = -1 ∨ rcZ p q = 0 ∨ rcZ p q = 1 := lxZ_bd _ _
theorem rcZ_of (p q : RV) : rcZ p q = if p.1 < q.1 then -1 else if q.1 < p.1 then 1 else if p.2.1 < q.2.1 then -1 else if q.2.1 < p.2.1 then 1 else lxZ p.2.2 q.2.2 := by
  unfold rcZ RV.key
  rw [lxZ_cons, lxZ_cons]

/-- Not after. -/
def leR (p q : RV) : Bool := decide (rcZ p q ≤ 0)
theorem leR_iff (p q : RV) : leR p q = true ↔ rcZ p q ≤ 0 := by unfold leR; simp
theorem leR_tr (a b c : RV) : leR a b = true → leR b c = true → leR a c = true := by rw [leR_iff, leR_iff, leR_iff]; exact rcZ_trans
theorem leR_to (a b : RV) : (leR a b || leR b a) = true := by
  rw [Bool.or_eq_true, leR_iff, leR_iff]
  have := rcZ_neg a b
  omega
theorem leR_anti {a b : RV} (h : leR a b = true) (k : leR b a = true) : a = b := by
  rw [leR_iff] at h k
  have := rcZ_neg a b
  exact rcZ_zero (by omega)
/-- The records in order. -/
def srt (L : List RV) : List RV := L.mergeSort leR
def isS (L : List RV) : Prop := L.Pairwise fun a b => leR a b = true
theorem srt_perm (L : List RV) : (srt L).Perm L := List.mergeSort_perm L leR
theorem srt_pw (L : List RV) : isS (srt L) := List.pairwise_mergeSort leR_tr leR_to L
theorem srt_len (L : List RV) : (srt L).length = L.length := (srt_perm L).length_eq
/-- There is but one list in order with the same records. -/
theorem srt_uniq {L M : List RV} (hp : M.Perm L) (hs : isS M) : M = srt L :=
  List.Perm.eq_of_pairwise (le := fun a b => leR a b = true) (fun _ _ _ _ h1 h2 => leR_anti h1 h2) hs (srt_pw L) (hp.trans (srt_perm L).symm)
/-- A record is put behind all that are not after it. -/
theorem isS_put {L : List RV} {r : RV} {k : Nat} (hs : isS L) (h1 : ∀ p ∈ L.drop k, leR r p = true) (h2 : k = 0 ∨ ∃ p, L[k - 1]? = some p ∧ leR p r = true) : isS (L.take k ++ r :: L.drop k) := by
  unfold isS at hs ⊢
  rw [← List.take_append_drop k L, List.pairwise_append] at hs
  obtain ⟨s1, s2, s3⟩ := hs
  refine List.pairwise_append.2 ⟨s1, List.pairwise_cons.2 ⟨h1, s2⟩, fun a ha b hb => ?_⟩
  have har : leR a r = true := by
    rcases h2 with h2 | ⟨p, hp, hpr⟩
    · subst h2; simp at ha
    · obtain ⟨j, hj, e⟩ := List.mem_take_iff_getElem.1 ha
      by_cases hjk : j = k - 1
      · subst hjk
        rw [List.getElem?_eq_getElem (by omega)] at hp
        injection hp with hp
        rw [← e, hp]
        exact hpr
      · have hkl : k - 1 < L.length := (List.getElem?_eq_some_iff.1 hp).1
        have : leR L[j] L[k - 1] = true := by
          have hpw := s1
          rw [List.pairwise_iff_getElem] at hpw
          have := hpw j (k - 1) (by rw [List.length_take]; omega) (by rw [List.length_take]; omega) (by omega)
          simpa using this
        rw [List.getElem?_eq_getElem hkl] at hp
        injection hp with hp
        rw [← e]
        exact leR_tr _ _ _ this (by rw [hp]; exact hpr)
  rcases List.mem_cons.1 hb with rfl | hb
  · exact har
  · exact s3 a ha b hb
theorem put_perm {α : Type} (L : List α) (r : α) (k : Nat) : (L.take k ++ r :: L.drop k).Perm (L ++ [r]) := by
  have : (L.take k ++ r :: L.drop k).Perm (r :: (L.take k ++ L.drop k)) := List.perm_middle
  rw [List.take_append_drop] at this
  exact this.trans (List.perm_append_singleton r L).symm
/-- Two lists are the same if and only if their sorted lists are equal, record by record. -/
def sameB (A B : List RV) : Bool := decide (srt A = srt B)

/-- Is it a record, are they data, for a valid schema? -/
def rokB (S : List (ByteArray × Int)) (q : RV) : Bool := inB q.1 0 29 && inB q.2.1 0 999 && fitB S q.2.2
def dokB (S : List (ByteArray × Int)) (Q : List RV) : Bool := decide (Q.length ≤ 40) && Q.all (rokB S)
theorem dokB_len {S : List (ByteArray × Int)} {Q : List RV} (h : dokB S Q = true) : Q.length ≤ 40 := by
  unfold dokB at h
  simp only [Bool.and_eq_true, decide_eq_true_eq] at h
  exact h.1
theorem dokB_mem {S : List (ByteArray × Int)} {Q : List RV} (h : dokB S Q = true) {q : RV} (hq : q ∈ Q) : rokB S q = true := by
  unfold dokB at h
  simp only [Bool.and_eq_true, decide_eq_true_eq, List.all_eq_true] at h
  exact h.2 q hq
theorem dokB_long {S : List (ByteArray × Int)} {Q : List RV} (h : 40 < Q.length) : dokB S Q = false := by unfold dokB; rw [decide_eq_false (by omega)]; rfl
theorem dokB_bad {S : List (ByteArray × Int)} {Q : List RV} {i : Nat} {q : RV} (h : Q[i]? = some q) (hq : rokB S q = false) : dokB S Q = false := by
  unfold dokB
  rw [Bool.and_eq_false_iff]
  right
  rw [List.all_eq_false]
  exact ⟨q, List.mem_of_getElem? h, by rw [hq]; simp⟩
theorem dokB_all {S : List (ByteArray × Int)} {Q : List RV} (h : ∀ j, j < Q.length → ∃ q, Q[j]? = some q ∧ rokB S q = true) : dokB S Q = decide (Q.length ≤ 40) := by
  unfold dokB
  have : Q.all (rokB S) = true := by
    rw [List.all_eq_true]
    intro q hq
    obtain ⟨j, hj, e⟩ := List.getElem_of_mem hq
    obtain ⟨p, hp, hr⟩ := h j hj
    rw [List.getElem?_eq_getElem hj, e] at hp
    injection hp with hp
    rw [hp]; exact hr
  rw [this, Bool.and_true]
theorem rokB_get {S : List (ByteArray × Int)} {q : RV} (h : rokB S q = true) : 0 ≤ q.1 ∧ q.1 ≤ 29 ∧ 0 ≤ q.2.1 ∧ q.2.1 ≤ 999 ∧ fitB S q.2.2 = true := by
  unfold rokB at h
  rw [Bool.and_eq_true, Bool.and_eq_true, inB_iff, inB_iff] at h
  exact ⟨h.1.1.1, h.1.1.2, h.1.2.1, h.1.2.2, h.2⟩
/-- A schema, a record; a schema, data. -/
def irB (S : List (ByteArray × Int)) (q : RV) : Bool := schB S && rokB S q
def idB (S : List (ByteArray × Int)) (Q : List RV) : Bool := schB S && dokB S Q
end Go.Proofs.YtgkaalonmkcclaaDoor

namespace Go.Proofs.YtgkaalonmkcclaaDoor
open Go.RowKit

/-- The variables that a list names; the values of these. -/
def tbS (S : List (ByteArray × Int)) (F : List Int) : List (ByteArray × Int) := F.map fun i => S.getD i.toNat (⟨#[]⟩, 0)
def tbV (V : List Int) (F : List Int) : List Int := F.map fun i => V.getD i.toNat 0
theorem tbS_len (S : List (ByteArray × Int)) (F : List Int) : (tbS S F).length = F.length := by unfold tbS; rw [List.length_map]
theorem tbV_len (V F : List Int) : (tbV V F).length = F.length := by unfold tbV; rw [List.length_map]
theorem tbS_at {S : List (ByteArray × Int)} {F : List Int} {k : Nat} {i : Int} {p : ByteArray × Int} (h : F[k]? = some i) (hp : S[i.toNat]? = some p) : (tbS S F)[k]? = some p := by
  unfold tbS
  rw [List.getElem?_map, h]
  simp [List.getD_eq_getElem?_getD, hp]
theorem tbV_at {V F : List Int} {k : Nat} {i v : Int} (h : F[k]? = some i) (hp : V[i.toNat]? = some v) : (tbV V F)[k]? = some v := by
  unfold tbV
  rw [List.getElem?_map, h]
  simp [List.getD_eq_getElem?_getD, hp]
theorem tbS_snoc (S : List (ByteArray × Int)) {F : List Int} {k : Nat} {i : Int} {p : ByteArray × Int} (h : F[k]? = some i) (hp : S[i.toNat]? = some p) : tbS S (F.take (k + 1)) = tbS S (F.take k) ++ [p] := by
  unfold tbS
  rw [take_snoc h, List.map_append]
  simp [List.getD_eq_getElem?_getD, hp]
theorem tbV_snoc (V : List Int) {F : List Int} {k : Nat} {i v : Int} (h : F[k]? = some i) (hp : V[i.toNat]? = some v) : tbV V (F.take (k + 1)) = tbV V (F.take k) ++ [v] := by
  unfold tbV
  rw [take_snoc h, List.map_append]
  simp [List.getD_eq_getElem?_getD, hp]
theorem rsU_pw {n : Int} : ∀ {b : Int} {F : List Int}, rsU n b F = true → F.Pairwise (fun a c => a < c)
  | _, [], _ => List.Pairwise.nil
  | b, v :: r, h => by
    unfold rsU at h
    rw [Bool.and_eq_true, decide_eq_true_eq] at h
    exact List.Pairwise.cons (fun u hu => by have := rs_bd h.2 u hu; omega) (rsU_pw h.2)
theorem rsU_len {n : Int} : ∀ {b : Int} {F : List Int}, rsU n b F = true → 0 ≤ b → b ≤ n → (F.length : Int) ≤ n - b
  | b, [], _, _, h => by simp; omega
  | b, v :: r, h, h0, h1 => by
    unfold rsU at h
    rw [Bool.and_eq_true, decide_eq_true_eq] at h
    have := rsU_len h.2 (by omega) (by omega)
    simp only [List.length_cons]
    omega
theorem rsB_len {S : List (ByteArray × Int)} {F : List Int} (h : rsB S F = true) : F.length ≤ S.length := by
  have := rsU_len h (by omega) (by omega)
  omega
theorem rsB_bd {S : List (ByteArray × Int)} {F : List Int} (h : rsB S F = true) {k : Nat} {i : Int} (hk : F[k]? = some i) : 0 ≤ i ∧ i < S.length ∧ i.toNat < S.length := by
  have := rs_bd h i (List.mem_of_getElem? hk)
  omega
theorem tbS_get {S : List (ByteArray × Int)} {F : List Int} (h : rsB S F = true) {k : Nat} {p : ByteArray × Int} (hk : (tbS S F)[k]? = some p) : ∃ i : Int, F[k]? = some i ∧ S[i.toNat]? = some p := by
  unfold tbS at hk
  rw [List.getElem?_map, Option.map_eq_some_iff] at hk
  obtain ⟨i, hi, e⟩ := hk
  have := (rsB_bd h hi).2.2
  rw [List.getD_eq_getElem?_getD, List.getElem?_eq_getElem this, Option.getD_some] at e
  exact ⟨i, hi, by rw [List.getElem?_eq_getElem this, e]⟩
theorem tbS_ok {S : List (ByteArray × Int)} {F : List Int} (hs : schB S = true) (h : rsB S F = true) : PtS (tbS S F) := by
  cases F with
  | nil => exact Or.inl rfl
  | cons f r =>
    right
    have hl := rsB_len h
    have h6 := schB_len hs
    rw [schB_of (by rw [tbS_len]; simp) (by rw [tbS_len]; omega), upB_iff]
    refine ⟨fun p hp => ?_, ?_⟩
    · obtain ⟨k, hk, e⟩ := List.getElem_of_mem hp
      obtain ⟨i, -, hi⟩ := tbS_get h (k := k) (p := p) (by rw [List.getElem?_eq_getElem hk, e])
      exact schB_va hs (List.mem_of_getElem? hi)
    · have hpw : (f :: r).Pairwise (fun a c => a < c) := rsU_pw h
      have hnd := ((upB_iff S).1 (schB_up hs)).2
      unfold ky tbS
      rw [List.map_map]
      show ((f :: r).map _).Pairwise (· ≠ ·)
      rw [List.pairwise_map]
      refine hpw.imp_of_mem fun {a c} ha hc hlt heq => ?_
      obtain ⟨ka, hka, ea⟩ := List.getElem_of_mem ha
      obtain ⟨kc, hkc, ec⟩ := List.getElem_of_mem hc
      have ba := rsB_bd h (k := ka) (i := a) (by rw [List.getElem?_eq_getElem hka, ea])
      have bc := rsB_bd h (k := kc) (i := c) (by rw [List.getElem?_eq_getElem hkc, ec])
      simp only [Function.comp, List.getD_eq_getElem?_getD, List.getElem?_eq_getElem ba.2.2, List.getElem?_eq_getElem bc.2.2, Option.getD_some] at heq
      have hla : a.toNat < (ky S).length := by unfold ky; rw [List.length_map]; exact ba.2.2
      have hlc : c.toNat < (ky S).length := by unfold ky; rw [List.length_map]; exact bc.2.2
      have := List.pairwise_iff_getElem.1 hnd a.toNat c.toNat hla hlc (by omega)
      have e1 : ∀ (i : Nat) (hi : i < (ky S).length) (h2 : i < S.length), (ky S)[i] = nmL S[i].1 := fun i hi h2 => by simp [ky]
      rw [e1 _ _ ba.2.2, e1 _ _ bc.2.2] at this
      exact this heq
theorem tbV_fit {S : List (ByteArray × Int)} {V F : List Int} (hf : fitB S V = true) (h : rsB S F = true) : fitB (tbS S F) (tbV V F) = true := by
  refine fit_all (by rw [tbS_len, tbV_len]) fun k hk => ?_
  have hk' : k < (tbS S F).length := hk
  obtain ⟨i, hi, hp⟩ := tbS_get h (k := k) (p := (tbS S F)[k]) (List.getElem?_eq_getElem hk')
  have hlt := (rsB_bd h hi).2.2
  have hv : V[i.toNat]? = some (V[i.toNat]'(by rw [fit_len hf]; exact hlt)) := List.getElem?_eq_getElem _
  have := fit_get hf (nm := ((tbS S F)[k]).1) (lv := ((tbS S F)[k]).2) hp hv
  exact ⟨((tbS S F)[k]).1, ((tbS S F)[k]).2, _, List.getElem?_eq_getElem hk', tbV_at hi hv, this.1, this.2⟩
/-- Conditions: a set of levels for each variable, none counts as all. -/
def twB (S : List (ByteArray × Int)) (W : List Int) : Bool := decide (W.length = S.length) && (S.zip W).all fun q => inB q.2 0 (2 ^ q.1.2.toNat - 1)
theorem tw_len {S : List (ByteArray × Int)} {W : List Int} (h : twB S W = true) : W.length = S.length := by unfold twB at h; simp only [Bool.and_eq_true, decide_eq_true_eq] at h; exact h.1
theorem tw_no {S : List (ByteArray × Int)} {W : List Int} (h : W.length ≠ S.length) : twB S W = false := by unfold twB; rw [decide_eq_false h]; rfl
theorem tw_bad {S : List (ByteArray × Int)} {W : List Int} {i : Nat} {nm : ByteArray} {lv x : Int} (h1 : S[i]? = some (nm, lv)) (h2 : W[i]? = some x) (h : inB x 0 (2 ^ lv.toNat - 1) = false) : twB S W = false := by
  unfold twB
  have : ((S.zip W).all fun q => inB q.2 0 (2 ^ q.1.2.toNat - 1)) = false := by
    rw [List.all_eq_false]
    exact ⟨((nm, lv), x), List.mem_of_getElem? (zip_at h1 h2), by rw [h]; decide⟩
  rw [this, Bool.and_false]
theorem tw_all {S : List (ByteArray × Int)} {W : List Int} (hl : W.length = S.length) (h : ∀ j, j < S.length → ∃ nm lv x, S[j]? = some (nm, lv) ∧ W[j]? = some x ∧ inB x 0 (2 ^ lv.toNat - 1) = true) : twB S W = true := by
  unfold twB
  rw [decide_eq_true hl, Bool.true_and, List.all_eq_true]
  intro q hq
  obtain ⟨j, hj, e⟩ := List.getElem_of_mem hq
  obtain ⟨nm, lv, x, a, b, c⟩ := h j (by rw [List.length_zip] at hj; omega)
  have e2 := List.getElem?_eq_getElem hj
  rw [zip_at a b, e] at e2
  cases e2
  exact c
theorem tw_get {S : List (ByteArray × Int)} {W : List Int} (hs : schB S = true) (h : twB S W = true) {i : Nat} {x : Int} (h2 : W[i]? = some x) : ∃ nm lv, S[i]? = some (nm, lv) ∧ 2 ≤ lv ∧ lv ≤ 8 ∧ 0 ≤ x ∧ x ≤ flZ lv ∧ x ≤ 255 := by
  have hi : i < S.length := by rw [← tw_len h]; exact (List.getElem?_eq_some_iff.1 h2).1
  have h1 : S[i]? = some (S[i].1, S[i].2) := List.getElem?_eq_getElem hi
  have hl := schB_lv hs h1
  refine ⟨_, _, h1, hl.1, hl.2, ?_⟩
  by_cases hb : inB x 0 (2 ^ (S[i].2).toNat - 1) = true
  · have hb2 := (inB_iff _ _ _).1 hb
    have := flZ_bd hl
    unfold flZ at this ⊢
    exact ⟨hb2.1, hb2.2, by omega⟩
  · rw [tw_bad h1 h2 (by simpa using hb)] at h
    cases h
/-- Are values in the sets of the conditions? -/
def tmB (W V : List Int) : Bool := (W.zip V).all fun q => decide (q.1 = 0) || hsB q.1 q.2
theorem tm_bad {W V : List Int} {i : Nat} {x v : Int} (h1 : W[i]? = some x) (h2 : V[i]? = some v) (h : x ≠ 0) (k : hsB x v = false) : tmB W V = false := by
  unfold tmB
  rw [List.all_eq_false]
  refine ⟨(x, v), List.mem_of_getElem? (List.getElem?_zip_eq_some.2 ⟨h1, h2⟩), ?_⟩
  simp only
  rw [decide_eq_false h, k]
  decide
theorem tm_all {W V : List Int} (h : ∀ j, j < W.length → ∃ x v, W[j]? = some x ∧ V[j]? = some v ∧ (x = 0 ∨ hsB x v = true)) : tmB W V = true := by
  unfold tmB
  rw [List.all_eq_true]
  intro q hq
  obtain ⟨j, hj, e⟩ := List.getElem_of_mem hq
  obtain ⟨x, v, a, b, c⟩ := h j (by rw [List.length_zip] at hj; omega)
  have e2 := List.getElem?_eq_getElem hj
  rw [List.getElem?_zip_eq_some.2 (show W[j]? = some (x, v).1 ∧ V[j]? = some (x, v).2 from ⟨a, b⟩), e] at e2
  cases e2
  simp only
  rcases c with c | c
  · rw [decide_eq_true c]; rfl
  · rw [c, Bool.or_true]

/-- How many cells; is it a table? -/
def tcZ (P : List Int) (S : List (ByteArray × Int)) (l : Int) (F : List Int) : Int := ((lvL P l).length : Int) * cnZ (tbS S F)
def tgB (P : List Int) (S : List (ByteArray × Int)) (l : Int) (F W : List Int) (m : Int) : Bool :=
  geB P && (schB S && (rsB S F && (twB S W && (inB m (-1) ((S.length : Int) - 1) && (decide (0 < (lvL P l).length) && decide (tcZ P S l F ≤ 600))))))
structure TgP (P : List Int) (S : List (ByteArray × Int)) (l : Int) (F W : List Int) (m : Int) : Prop where
  g : geB P = true
  s : schB S = true
  r : rsB S F = true
  w : twB S W = true
  m0 : -1 ≤ m
  m1 : m < S.length
  v : 0 < (lvL P l).length
  c : tcZ P S l F ≤ 600
theorem tg_iff {P : List Int} {S : List (ByteArray × Int)} {l : Int} {F W : List Int} {m : Int} : tgB P S l F W m = true ↔ TgP P S l F W m := by
  unfold tgB
  simp only [Bool.and_eq_true, decide_eq_true_eq, inB_iff]
  exact ⟨fun ⟨a, b, c, d, ⟨e0, e1⟩, f, g⟩ => ⟨a, b, c, d, e0, by omega, f, g⟩, fun ⟨a, b, c, d, e0, e1, f, g⟩ => ⟨a, b, c, d, ⟨e0, by omega⟩, f, g⟩⟩
theorem tg_no {P : List Int} {S : List (ByteArray × Int)} {l : Int} {F W : List Int} {m : Int} (h : ¬ TgP P S l F W m) : tgB P S l F W m = false := by
  rw [← Bool.not_eq_true, tg_iff]; exact h
theorem lvL_len (P : List Int) (l : Int) : (lvL P l).length ≤ P.length := sel_len _ _
theorem tc_bd {P : List Int} {S : List (ByteArray × Int)} {l : Int} {F : List Int} (hg : geB P = true) (hs : schB S = true) (h : rsB S F = true) : 0 ≤ tcZ P S l F ∧ tcZ P S l F ≤ 7864320 ∧ 1 ≤ cnZ (tbS S F) ∧ cnZ (tbS S F) ≤ 262144 := by
  have hc := pt_cn (tbS_ok hs h)
  have hl := lvL_len P l
  have h30 := (ge_len hg).2
  unfold tcZ
  generalize cnZ (tbS S F) = c at hc ⊢
  generalize (lvL P l).length = n at hl ⊢
  have p1 : (n : Int) * c ≤ 30 * 262144 := Int.mul_le_mul (by omega) hc.2 (by omega) (by omega)
  exact ⟨Int.mul_nonneg (by omega) (by omega), by omega, hc.1, hc.2⟩
theorem tc_pos {P : List Int} {S : List (ByteArray × Int)} {l : Int} {F W : List Int} {m : Int} (h : TgP P S l F W m) : 1 ≤ tcZ P S l F := by
  have hc := pt_cn (tbS_ok h.s h.r)
  have hv := h.v
  unfold tcZ
  generalize cnZ (tbS S F) = c at hc ⊢
  generalize (lvL P l).length = n at hv ⊢
  have p1 : 1 * 1 ≤ (n : Int) * c := Int.mul_le_mul (by omega) hc.1 (by omega) (by omega)
  omega

/-- Where a number stands in a list, or -1. -/
def fdI (L : List Int) (n : Int) : Int := match L.findIdx? (· == n) with | some i => i | none => -1
theorem fdI_hit {L : List Int} {n : Int} {i : Nat} (h : L[i]? = some n) (hb : ∀ j, j < i → ¬ L[j]? = some n) : fdI L n = i := by
  unfold fdI
  have : L.findIdx? (· == n) = some i := by
    rw [List.findIdx?_eq_some_iff_getElem]
    obtain ⟨hi, e⟩ := List.getElem?_eq_some_iff.1 h
    refine ⟨hi, by simp [e], fun j hj => ?_⟩
    have := hb j hj
    rw [List.getElem?_eq_getElem (by omega : j < L.length)] at this
    simpa using this
  rw [this]
theorem fdI_miss {L : List Int} {n : Int} (h : ¬ n ∈ L) : fdI L n = -1 := by
  unfold fdI
  have : L.findIdx? (· == n) = none := by
    rw [List.findIdx?_eq_none_iff]
    intro x hx
    simp only [beq_eq_false_iff_ne, ne_eq]
    rintro rfl
    exact h hx
  rw [this]
theorem fdI_mem {L : List Int} {n : Int} (h : n ∈ L) : ∃ i : Nat, fdI L n = i ∧ L[i]? = some n ∧ i < L.length := by
  unfold fdI
  cases hf : L.findIdx? (· == n) with
  | none =>
    rw [List.findIdx?_eq_none_iff] at hf
    have := hf n h
    simp at this
  | some i =>
    rw [List.findIdx?_eq_some_iff_getElem] at hf
    obtain ⟨hi, e, -⟩ := hf
    simp at e
    exact ⟨i, rfl, by rw [List.getElem?_eq_getElem hi, e], hi⟩
theorem fdI_bd (L : List Int) (n : Int) : -1 ≤ fdI L n ∧ fdI L n < L.length := by
  by_cases h : n ∈ L
  · obtain ⟨i, e, -, hi⟩ := fdI_mem h
    omega
  · rw [fdI_miss h]
    omega
theorem fdI_neg {L : List Int} {n : Int} : 0 ≤ fdI L n ↔ n ∈ L := by
  by_cases h : n ∈ L
  · obtain ⟨i, e, -, -⟩ := fdI_mem h
    exact ⟨fun _ => h, fun _ => by omega⟩
  · rw [fdI_miss h]
    exact ⟨fun k => by omega, fun k => absurd k h⟩

/-- The cell of an area and values. -/
def ceZ (P : List Int) (S : List (ByteArray × Int)) (l : Int) (F : List Int) (a : Int) (V : List Int) : Int := fdI (lvL P l) a * cnZ (tbS S F) + ixZ (tbS S F) V
theorem ce_bd {P : List Int} {S : List (ByteArray × Int)} {l : Int} {F W : List Int} {m a : Int} {V : List Int} (h : TgP P S l F W m) (ha : a ∈ lvL P l) (hf : fitB (tbS S F) V = true) :
    0 ≤ fdI (lvL P l) a * cnZ (tbS S F) ∧ fdI (lvL P l) a * cnZ (tbS S F) ≤ 600 ∧ 0 ≤ ceZ P S l F a V ∧ ceZ P S l F a V < tcZ P S l F := by
  obtain ⟨i, e, -, hi⟩ := fdI_mem ha
  have hp := tbS_ok h.s h.r
  have hc := pt_cn hp
  have hx := pt_ix hp hf
  have h6 := h.c
  unfold ceZ tcZ at *
  rw [e]
  generalize cnZ (tbS S F) = c at *
  generalize ixZ (tbS S F) V = x at *
  generalize (lvL P l).length = n at *
  have p1 : ((i : Int) + 1) * c ≤ (n : Int) * c := Int.mul_le_mul_of_nonneg_right (by omega) (by omega)
  have p2 : 0 ≤ (i : Int) * c := Int.mul_nonneg (by omega) (by omega)
  rw [Int.add_mul] at p1
  omega

/-- The area of a level above an area is one of that level. -/
theorem an_lv {P : List Int} (hg : geB P = true) {i : Nat} (hi : i < P.length) {l : Int} (h : 0 ≤ anZ P i l) : anZ P i l ∈ lvL P l := by
  have hb := (an_bd hg hi l).2.2.1 h
  obtain ⟨n, rfl⟩ := Int.eq_ofNat_of_zero_le hb.1
  have hn : n ≤ dpN P i := by omega
  revert hn
  refine ge_ind hg (Q := fun i => n ≤ dpN P i → anZ P i n ∈ lvL P n) (fun h0 => ?_) (fun i p hi hp hl ih h0 => ?_) i hi
  · rw [dp_zero] at h0
    obtain rfl : n = 0 := by omega
    rw [an_at (l := 0) (v := 0) (by rw [pt_zero]; rfl)]
    exact sel_mem.2 ⟨0, rfl, by have := ge_len hg; omega, by rw [dp_zero]; rfl⟩
  · have hd := dp_step hp hl
    have h0' : n ≤ dpN P i := h0
    rcases Nat.lt_or_ge (dpN P p) n with h1 | h1
    · obtain rfl : n = dpN P i := by omega
      rw [an_at (pt_last P)]
      exact sel_mem.2 ⟨i, rfl, hi, decide_eq_true rfl⟩
    · have e : anZ P i n = anZ P p n := by
        have hlt : n < (ptL P p).length := by rw [pt_len]; omega
        have hat : (ptL P p)[n]? = some ((ptL P p)[n]) := List.getElem?_eq_getElem hlt
        rw [an_at hat, an_at (v := (ptL P p)[n])]
        rw [pt_step hp hl, List.getElem?_append_left hlt, hat]
      show anZ P i n ∈ lvL P n
      rw [e]
      exact ih h1

/-- The cell and the amount of a record, or -1 and 0. -/
def clI (P : List Int) (S : List (ByteArray × Int)) (l : Int) (F W : List Int) (a : Int) (V : List Int) : Int := if 0 ≤ anZ P a.toNat l ∧ tmB W V = true then ceZ P S l F (anZ P a.toNat l) (tbV V F) else -1
def clN (P : List Int) (l : Int) (W : List Int) (m : Int) (a : Int) (V : List Int) : Int := if 0 ≤ anZ P a.toNat l ∧ tmB W V = true then (if m < 0 then 1 else V.getD m.toNat 0) else 0
theorem cl_no {P : List Int} {S : List (ByteArray × Int)} {l : Int} {F W : List Int} {m a : Int} {V : List Int} (h : ¬ (0 ≤ anZ P a.toNat l ∧ tmB W V = true)) : clI P S l F W a V = -1 ∧ clN P l W m a V = 0 := ⟨if_neg h, if_neg h⟩
theorem cl_yes {P : List Int} {S : List (ByteArray × Int)} {l : Int} {F W : List Int} {a : Int} {V : List Int} (h : 0 ≤ anZ P a.toNat l) (k : tmB W V = true) : clI P S l F W a V = ceZ P S l F (anZ P a.toNat l) (tbV V F) := if_pos ⟨h, k⟩
theorem cl_one {P : List Int} {l : Int} {W : List Int} {m a : Int} {V : List Int} (h : 0 ≤ anZ P a.toNat l) (k : tmB W V = true) (hm : m < 0) : clN P l W m a V = 1 := by unfold clN; rw [if_pos ⟨h, k⟩, if_pos hm]
theorem cl_val {P : List Int} {l : Int} {W : List Int} {m a v : Int} {V : List Int} (h : 0 ≤ anZ P a.toNat l) (k : tmB W V = true) (hm : 0 ≤ m) (hv : V[m.toNat]? = some v) : clN P l W m a V = v := by
  unfold clN
  rw [if_pos ⟨h, k⟩, if_neg (by omega), List.getD_eq_getElem?_getD, hv]
  rfl
theorem cl_bd {P : List Int} {S : List (ByteArray × Int)} {l : Int} {F W : List Int} {m a : Int} {V : List Int} (h : TgP P S l F W m) (ha : a.toNat < P.length) (hf : fitB S V = true) :
    -1 ≤ clI P S l F W a V ∧ clI P S l F W a V < tcZ P S l F ∧ 0 ≤ clN P l W m a V ∧ clN P l W m a V ≤ 8 := by
  by_cases hk : 0 ≤ anZ P a.toNat l ∧ tmB W V = true
  · rw [cl_yes hk.1 hk.2]
    have := ce_bd h (an_lv h.g ha hk.1) (tbV_fit hf h.r)
    refine ⟨by omega, this.2.2.2, ?_⟩
    by_cases hm : m < 0
    · rw [cl_one hk.1 hk.2 hm]; omega
    · have hi : m.toNat < S.length := by have := h.m1; omega
      have hs : S[m.toNat]? = some (S[m.toNat].1, S[m.toNat].2) := List.getElem?_eq_getElem hi
      have hv : V[m.toNat]? = some (V[m.toNat]'(by rw [fit_len hf]; exact hi)) := List.getElem?_eq_getElem _
      rw [cl_val hk.1 hk.2 (by omega) hv]
      have h1 := fit_get hf hs hv
      have h2 := schB_lv h.s hs
      omega
  · obtain ⟨e1, e2⟩ := cl_no (S := S) (F := F) (m := m) hk
    rw [e1, e2]
    have := tc_pos h
    omega

/-- A survey; what the functions answer. -/
def tyB (P : List Int) (M : List RV) : Bool := M.all fun r => (lfL P).contains r.1
end Go.Proofs.YtgkaalonmkcclaaDoor

namespace Go.Proofs.YtgkaalonmkcclaaDoor
open Go.RowKit
set_option maxRecDepth 100000

/-- The conditions' words of the first n variables. -/
def cwB (W : List Int) (i : Nat) : Bool := W.getD i 0 != 0
def cwU (S : List (ByteArray × Int)) (W : List Int) (n : Nat) : List ByteArray := ((List.range n).filter (cwB W)).map (paS S W)
theorem cwU_yes {S : List (ByteArray × Int)} {W : List Int} {n : Nat} (h : cwB W n = true) : cwU S W (n + 1) = cwU S W n ++ [paS S W n] := by
  unfold cwU
  rw [List.range_succ, List.filter_append, List.map_append]
  simp [h]
theorem cwU_no {S : List (ByteArray × Int)} {W : List Int} {n : Nat} (h : cwB W n = false) : cwU S W (n + 1) = cwU S W n := by
  unfold cwU
  rw [List.range_succ, List.filter_append, List.map_append]
  simp [h]
theorem cwB_at {W : List Int} {i : Nat} {x : Int} (h : W[i]? = some x) : cwB W i = (x != 0) := by unfold cwB; rw [List.getD_eq_getElem?_getD, h]; rfl
theorem cwU_len (S : List (ByteArray × Int)) (W : List Int) (n : Nat) : (cwU S W n).length ≤ n := by
  unfold cwU
  rw [List.length_map]
  exact Nat.le_trans (List.length_filter_le _ _) (by simp)
theorem cwU_size {S : List (ByteArray × Int)} {W : List Int} (hs : schB S = true) (n : Nat) : ∀ t ∈ cwU S W n, t.size + 1 ≤ 26 := by
  intro t ht
  unfold cwU at ht
  obtain ⟨i, _, rfl⟩ := List.mem_map.1 ht
  have := paS_size (E := W) hs i
  omega
/-- The name of a variable; the names of the variables at places. -/
def naA (S : List (ByteArray × Int)) (i : Nat) : ByteArray := ((S[i]?).map (·.1)).getD ⟨#[]⟩
theorem naA_at {S : List (ByteArray × Int)} {i : Nat} {nm : ByteArray} {lv : Int} (h : S[i]? = some (nm, lv)) : naA S i = nm := by unfold naA; rw [h]; rfl
def nsL (S : List (ByteArray × Int)) (F : List Int) : List ByteArray := (tbS S F).map (·.1)
def wCount : ByteArray := ⟨#[99, 111, 117, 110, 116]⟩
def wSum : ByteArray := ⟨#[115, 117, 109]⟩
def wLevel : ByteArray := ⟨#[108, 101, 118, 101, 108]⟩
def wBy : ByteArray := ⟨#[98, 121]⟩
def wWhere : ByteArray := ⟨#[119, 104, 101, 114, 101]⟩
/-- The words of a table, piece by piece. -/
def tw0 (S : List (ByteArray × Int)) (m : Int) : List ByteArray := if m = -1 then [wCount] else [wSum, naA S m.toNat]
def tw1 (S : List (ByteArray × Int)) (l m : Int) : List ByteArray := tw0 S m ++ [wLevel, numZ l]
def tw2 (S : List (ByteArray × Int)) (l : Int) (F : List Int) (m : Int) : List ByteArray := if F.length = 0 then tw1 S l m else tw1 S l m ++ [wBy, jnS 44 (nsL S F)]
def tw3 (S : List (ByteArray × Int)) (l : Int) (F W : List Int) (m : Int) : List ByteArray := if (cwU S W S.length).length = 0 then tw2 S l F m else tw2 S l F m ++ [wWhere]
def ttT (S : List (ByteArray × Int)) (l : Int) (F W : List Int) (m : Int) : ByteArray := jnS 32 (tw3 S l F W m ++ cwU S W S.length)
section
variable {S : List (ByteArray × Int)} {l : Int} {F W : List Int} {m : Int}
theorem tw0_no (h : m = -1) : tw0 S m = [wCount] := if_pos h
theorem tw0_yes (h : m ≠ -1) : tw0 S m = [wSum, naA S m.toNat] := if_neg h
theorem tw2_no (h : F.length = 0) : tw2 S l F m = tw1 S l m := if_pos h
theorem tw2_yes (h : F.length ≠ 0) : tw2 S l F m = tw1 S l m ++ [wBy, jnS 44 (nsL S F)] := if_neg h
theorem tw3_no (h : (cwU S W S.length).length = 0) : tw3 S l F W m = tw2 S l F m := if_pos h
theorem tw3_yes (h : (cwU S W S.length).length ≠ 0) : tw3 S l F W m = tw2 S l F m ++ [wWhere] := if_neg h
theorem tw0_len : 1 ≤ (tw0 S m).length ∧ (tw0 S m).length ≤ 2 := by unfold tw0; split <;> simp
theorem tw1_len : 3 ≤ (tw1 S l m).length ∧ (tw1 S l m).length ≤ 4 := by unfold tw1; have := tw0_len (S := S) (m := m); simp; omega
theorem tw2_len : 3 ≤ (tw2 S l F m).length ∧ (tw2 S l F m).length ≤ 6 := by
  have := tw1_len (S := S) (l := l) (m := m)
  unfold tw2; split
  · omega
  · simp; omega
theorem tw3_len : 3 ≤ (tw3 S l F W m).length ∧ (tw3 S l F W m).length ≤ 7 := by
  have := tw2_len (S := S) (l := l) (F := F) (m := m)
  unfold tw3; split
  · omega
  · simp; omega
theorem nm_size (hs : schB S = true) {p : ByteArray × Int} (h : p ∈ S) : p.1.size ≤ 8 := by
  have hv := schB_va hs h
  unfold vaB nmB at hv
  simp only [Bool.and_eq_true, decide_eq_true_eq] at hv
  omega
theorem naA_size (hs : schB S = true) (i : Nat) : (naA S i).size ≤ 8 := by
  unfold naA
  cases h : S[i]? with
  | none => exact Nat.zero_le _
  | some p => exact nm_size hs (List.mem_of_getElem? h)
end
end Go.Proofs.YtgkaalonmkcclaaDoor

namespace Go.Proofs.YtgkaalonmkcclaaDoor
open Go.RowKit
set_option maxRecDepth 100000

theorem vC_two (a : ByteArray) (n : Int) : vC [(a, n)] = [.string a, .int .i64 n] := rfl

theorem step_append_rd {P : Program} (w : World) {ops : Array Oper} {o : Oper} {a : Act} {K : Act → World → Prop} {Q : Exit → Act → World → Prop} {E : Prop} (hgd : o.guard = none) (s x : Operand) (t : TypeId)
    (ho : o.op = .call { callee := .builtin .append, args := #[s, x], argTypes := #[t, t] })
    (base : Nat) (e : TypeId) (i : TypeInfo) (z : Value) (size bytes : Nat) (ht : P.underlying t = some (.slice e)) (hi : P.info? e = some i) (hz : i.zero = some z)
    (hsize : i.size = size) (hby : i.bytes = bytes) (hzs : z.cells.size = size) (hsz : 0 < size)
    (v : Value) (n : Nat) (xs : List Value) (hs : a.eval s = v) (hown : w.ownsRow base e size v n xs)
    (A : Option Addr) (m c : Nat) (hx : a.eval x = .slice A m c) (hc : m ≤ c) (hnil : A = none → c = 0) (news : List Value) (hl : news.length = m * size) (hr : Rd w A news) (h1 : ∀ u ∈ news, u.oneCell' = true)
    (h63 : n + m ≤ maxLen) (hbytes : (n + m) * bytes ≤ 140737488355328) (hbase : base ≤ w.heap.size)
    (h : ∀ v' w', w'.ownsRow base e size v' (n + m) (xs ++ news) → w.grownBy w' v.ownBlock → (v'.ownBlock = v.ownBlock ∨ v'.ownBlock = some w.heap.size) → K (a.put o.dst v') w') :
    if Region.wanted o (yielded ops a.tmps) = true then Oper.wp P o a w K Q else E := by
  have hw : Region.wanted o (yielded ops a.tmps) = true := by simp [Region.wanted, hgd]
  rw [if_pos hw]
  obtain ⟨v', w', hrun, h2, h3, h4⟩ := run_append_rd (P := P) w base t o.type e i z size bytes ht hi hz hsize hby hzs hsz v n xs hown A m c hc hnil news hl hr h1 h63 hbytes hbase
  unfold Oper.wp execOp
  simp only [ho, resolve, invoke, builtin, Sem.run_bind, Sem.run_pure, Result.andThen_ok, List.map_toArray, List.map_cons, List.map_nil, hs, hx, hrun]
  exact h v' w' h2 h3 h4
theorem Rd.oneV (w : World) (t : TypeId) (s : ByteArray) (n : Int) : Rd (w.alloc (.cells #[.string s, .int .i64 n] t)) (some ⟨w.heap.size, 0, none⟩) (vC [(s, n)]) := by
  refine Or.inr ⟨w.heap.size, 0, rfl, by simp, fun j u hj => ?_⟩
  rw [vC_two] at hj
  rw [Nat.zero_add, World.cell?_alloc_at _ _ _ _ rfl, ← hj, ← Array.getElem?_toList]
theorem Rd.drewW {w : World} {x : Option Addr} {xs : List Value} (h : Rd w x xs) : Rd w.drew x xs := h

end Go.Proofs.YtgkaalonmkcclaaDoor

namespace Go.Proofs.YtgkaalonmkcclaaDoor
open Go.RowKit
set_option maxRecDepth 100000

theorem itoa_E (n : Int) (w : World) (h0 : 0 ≤ n) (h1 : n < 100) :
    Calls Tryd.prog 42 #[.int .i64 n] w fun e w' => e = .returned (.string (numZ n)) ∧ w' = w := by
  have := Tryd.strconv_Itoa_small n.toNat (by omega) w
  rw [show ((n.toNat : Nat) : Int) = n by omega] at this
  exact this
theorem join_S (bk cp : Nat) (b : UInt8) (L : List ByteArray) (w : World) (h1 : 1 ≤ L.length) (h2 : L.length ≤ 1000) (hc : L.length ≤ cp) (hs : (jnS b L).size ≤ 10000000) (hr : Rd w (some ⟨bk, 0, none⟩) (tC L)) :
    Calls Tryd.prog 46 #[.slice (some ⟨bk, 0, none⟩) L.length cp, .string ⟨#[b]⟩] w fun e w' => e = .returned (.string (jnS b L)) ∧ Below w.heap.size w w' := by
  rcases hr with h | ⟨g, off, e, hb, hcl⟩
  · have := congrArg List.length h
    rw [tC_len, List.length_nil] at this
    omega
  injection e with e
  injection e with e1 e2
  subst e1 e2
  have hj := Tryd.strings_Join bk 0 cp L ⟨#[b]⟩ w (fun j t hj => hcl j _ (tC_at hj)) hb (by omega) (by omega) (by
    have hz : (jnS b L).size = (Lib.join (L.map (·.data.toList)) (⟨#[b]⟩ : ByteArray).data.toList).length := List.size_toArray ..
    omega)
  exact hj

set_option maxHeartbeats 2000000 in
theorem setText_any (nm : ByteArray) (lv x : Int) (w : World) (h : 2 ≤ lv ∧ lv ≤ 8) (h0 : 1 ≤ x) (h1 : x ≤ flZ lv) :
    Calls Tryd.prog 62 #[.agg #[.string nm, .int .i64 lv], .int .i64 x] w fun e w' => e = .returned (.string (setT x)) ∧ Below w.heap.size w w' := by
  obtain ⟨i0, hii, hz0, hz1, hz2⟩ := info_parts Tryd.infoStr
  have hf := flZ_bd h
  have hln := lvsL_len x
  have hl1 := lvs_ne h0 (by omega)
  have hss := setT_size x
  have hbb : i0.bytes * (lvsL x).length ≤ 281474976710656 := by rw [hz2]; omega
  have hmm : (lvsL x).length ≤ maxLen := by unfold maxLen; omega
  go_enter Tryd.func62, Tryd.ntmps62
  go_wp2_with fail
  refine (levelsIn_any _ _ _ _ h h0 h1).mono ?_
  rintro e w2 ⟨u2, rfl, ho2, hb2⟩
  obtain ⟨x2, n2, rfl, -, -⟩ := (OwR.of ho2).form
  have A2 := Lib.hid (Rd.of_own ho2)
  have B2 : Below w.heap.size w w2 := (by repeat (first | exact Below.refl _ _ | assumption | refine Below.drew ?_ | refine below_drewN ?_ _ | refine Below.alloc' ?_ _ | (refine Below.setCell ?_ (by first | omega | (simp; done) | (simp; omega) | exact Below.size (by assumption) | exact Nat.le_trans (Below.size (by assumption)) (by simp)) _) | (refine Below.via' ?_ (by assumption)) | (refine Below.alloc ?_ (by first | omega | (simp; done) | (simp; omega) | exact Below.size (by assumption) | exact Nat.le_trans (Below.size (by assumption)) (by simp)) _) | (refine Below.via ?_ (by assumption) (by first | omega | (simp; done) | (simp; omega) | exact Below.size (by assumption) | exact Nat.le_trans (Below.size (by assumption)) (by simp)))))
  clear ho2 hb2
  go_wp2_with (at_make; go_loud (refine wpList_make_full _ rfl _ _ 72 rfl w2.heap.size 9 i0 (.string ⟨#[]⟩) 1 Tryd.underlying72 hii hz0 hz1 .i64 .i64 _ _ (lvsL x).length rfl rfl rfl rfl hbb hmm (Nat.le_refl _) (fun w3 hown hgrow => ?_)))
  have hb3 : Below w2.heap.size w2 w3 := (Below.refl _ _).grown hgrow (Nat.le_refl _) (by intro k hk; cases hk)
  clear hgrow hii hz0 hz1 hz2 hbb hmm
  go_loopw [17] (fun q wr => ∃ (n : Nat) (xs : List Value), n ≤ (lvsL x).length ∧ q = .int .i64 n ∧ wr.ownsRow w2.heap.size 9 1 (.slice (some ⟨w2.heap.size, 0, none⟩) (lvsL x).length (lvsL x).length) (lvsL x).length xs ∧ Hid (∀ j, j < n → xs[j]? = (tC ((lvsL x).map numZ))[j]?) ∧ Below w2.heap.size w2 wr) (fun q _ => (lvsL x).length - (intOf q).toNat)
  case atStart => exact ⟨0, _, by omega, by go_num, hown, (fun j hj => absurd hj (by omega)), hb3⟩
  case round =>
    clear hown hb3
    obtain ⟨n, xs, hn, rfl, hown, hdone, hb⟩ := hrel
    by_cases hlt : n < (lvsL x).length
    · obtain ⟨bl, off, v, hx2, hbl, hA, hc0⟩ := (A2.out.below hb).int hlt
      have hv := lvs_i64 x v (List.mem_of_getElem? hA)
      have hlt' : (n : Int) < ((lvsL x).length : Int) := by omega
      have hn0 : (0 : Int) ≤ (n : Int) := by omega
      obtain ⟨u, hu, k0⟩ := own_cell hown (j := n) (by omega)
      have k2 := hown.frozenAt n
      have k4 := (own_lt hown).2
      have hst := Lib.hid (hown.stored n (.string (numZ v)))
      have hlen : Hid (xs.length = (lvsL x).length) := by have := hown.1; unfold Hid; omega
      have hx2h := Lib.hid hx2
      replace hA := Lib.hid hA
      replace hu := Lib.hid hu
      clear hown hx2
      rw [hx2h.out]
      go_wp2_with fail
      refine (itoa_E v _ (by omega) (by omega)).mono ?_
      rintro e w5 ⟨rfl, rfl⟩
      go_wp2
      go_roundw
      case rel =>
        refine ⟨n + 1, _, by omega, by go_num, hst.out.1, ?_, (by repeat (first | exact Below.refl _ _ | assumption | refine Below.drew ?_ | refine below_drewN ?_ _ | refine Below.alloc' ?_ _ | (refine Below.setCell ?_ (by first | omega | (simp; done) | (simp; omega) | exact Below.size (by assumption) | exact Nat.le_trans (Below.size (by assumption)) (by simp)) _) | (refine Below.via' ?_ (by assumption)) | (refine Below.alloc ?_ (by first | omega | (simp; done) | (simp; omega) | exact Below.size (by assumption) | exact Nat.le_trans (Below.size (by assumption)) (by simp)) _) | (refine Below.via ?_ (by assumption) (by first | omega | (simp; done) | (simp; omega) | exact Below.size (by assumption) | exact Nat.le_trans (Below.size (by assumption)) (by simp)))))⟩
        intro j hj
        rw [List.getElem?_set]
        split
        · subst_vars
          rw [if_pos (by rw [hlen.out]; omega)]
          unfold tC
          rw [List.getElem?_map, List.getElem?_map, hA.out]
          rfl
        · exact hdone.out j (by omega)
      case measure => simp [intOf]; omega
    · have hij : n = (lvsL x).length := by omega
      subst hij
      have hxs : xs = tC ((lvsL x).map numZ) := by
        have hlen : xs.length = (lvsL x).length := by rw [hown.1]; omega
        apply List.ext_getElem?
        intro j
        rcases Nat.lt_or_ge j (lvsL x).length with hj | hj
        · exact hdone.out j hj
        · rw [List.getElem?_eq_none (by omega), List.getElem?_eq_none (by rw [tC_len, List.length_map]; omega)]
      subst hxs
      have hrd := Lib.hid (Rd.of_own hown)
      have hj := join_S w2.heap.size (lvsL x).length 44 ((lvsL x).map numZ) wr (by rw [List.length_map]; exact hl1) (by rw [List.length_map]; omega) (by rw [List.length_map]; exact Nat.le_refl _) (by have : (jnS 44 ((lvsL x).map numZ)).size ≤ 16 := hss; omega) hrd.out
      rw [List.length_map] at hj
      have hjh := Lib.hid hj
      clear hdone hown hj
      go_wp2_with fail
      refine hjh.out.mono ?_
      rintro e w6 ⟨rfl, hb6⟩
      go_wp2
      go_ret
      exact ⟨rfl, (by repeat (first | exact Below.refl _ _ | assumption | refine Below.drew ?_ | refine below_drewN ?_ _ | refine Below.alloc' ?_ _ | (refine Below.setCell ?_ (by first | omega | (simp; done) | (simp; omega) | exact Below.size (by assumption) | exact Nat.le_trans (Below.size (by assumption)) (by simp)) _) | (refine Below.via' ?_ (by assumption)) | (refine Below.alloc ?_ (by first | omega | (simp; done) | (simp; omega) | exact Below.size (by assumption) | exact Nat.le_trans (Below.size (by assumption)) (by simp)) _) | (refine Below.via ?_ (by assumption) (by first | omega | (simp; done) | (simp; omega) | exact Below.size (by assumption) | exact Nat.le_trans (Below.size (by assumption)) (by simp)))))⟩

theorem retS_no {S : List (ByteArray × Int)} {E : List Int} {w w' : World} (hb : seB S E = false) (h : Below w.heap.size w w') : Ending.returned (.tuple #[.string ⟨#[]⟩, .bool false]) = .returned (.tuple #[.string (edR S E), .bool (seB S E)]) ∧ Below w.heap.size w w' := by
  rw [edR_no hb, hb]
  exact ⟨rfl, h⟩
theorem retS_yes {S : List (ByteArray × Int)} {E : List Int} {w w' : World} {t : ByteArray} (hb : seB S E = true) (ht : edT S E = t) (h : Below w.heap.size w w') : Ending.returned (.tuple #[.string t, .bool true]) = .returned (.tuple #[.string (edR S E), .bool (seB S E)]) ∧ Below w.heap.size w w' := by
  rw [edR_yes hb, hb, ht]
  exact ⟨rfl, h⟩
theorem name_size {S : List (ByteArray × Int)} (hs : schB S = true) {i : Nat} {nm : ByteArray} {lv : Int} (h : S[i]? = some (nm, lv)) : nm.size ≤ 8 := by
  have hv := schB_va hs (List.mem_of_getElem? h)
  unfold vaB nmB at hv
  simp only [Bool.and_eq_true, decide_eq_true_eq] at hv
  exact hv.1.1.2
theorem below_undrewE {w w' : World} (h : Below w.drew.heap.size w.drew w') : Below w.heap.size w w' := ⟨h.os, h.tape, h.output, h.size, h.block⟩
end Go.Proofs.YtgkaalonmkcclaaDoor
