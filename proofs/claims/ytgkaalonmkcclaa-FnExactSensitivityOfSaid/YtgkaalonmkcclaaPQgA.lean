import Derived.Test.YtgkaalonmkcclaaRec
import Derived.Test.YtgkaalonmkcclaaImN
import Derived.Test.YtgkaalonmkcclaaGeo
import Derived.Test.YtgkaalonmkcclaaPts
import Derived.Test.YtgkaalonmkcclaaRecL
import Derived.Test.YtgkaalonmkcclaaSchO
import Derived.Deep.Strs
namespace Go.Proofs.Ytgkaalonmkcclaa

/-- Lists in lexicographic order: -1, 0 or 1. -/
def lxZ : List Int → List Int → Int
  | [], [] => 0
  | [], _ :: _ => -1
  | _ :: _, [] => 1
  | a :: x, b :: y => if a < b then -1 else if b < a then 1 else lxZ x y
/-- Two numbers. -/
def cmZ (a b : Int) : Int := if a < b then -1 else if b < a then 1 else 0
def RV.key (p : RV) : List Int := p.1 :: p.2.1 :: p.2.2
/-- Two records. -/
def rcZ (p q : RV) : Int := lxZ (RV.key p) (RV.key q)
theorem lxZ_nilnil : lxZ [] [] = 0 := by unfold lxZ; rfl
theorem lxZ_nilcons (b : Int) (y : List Int) : lxZ [] (b :: y) = -1 := by unfold lxZ; rfl
theorem lxZ_consnil (a : Int) (x : List Int) : lxZ (a :: x) [] = 1 := by unfold lxZ; rfl
theorem lxZ_cons (a b : Int) (x y : List Int) : lxZ (a :: x) (b :: y) = if a < b then -1 else if b < a then 1 else lxZ x y := by rw [lxZ]
theorem lxZ_self : ∀ x : List Int, lxZ x x = 0
  | [] => lxZ_nilnil
  | a :: x => by rw [lxZ_cons, if_neg (by omega), if_neg (by omega), lxZ_self x]
theorem lxZ_neg : ∀ x y : List Int, lxZ y x = - lxZ x y
  | [], [] => by rw [lxZ_nilnil]; rfl
  | [], b :: y => by rw [lxZ_nilcons, lxZ_consnil]; rfl
  | a :: x, [] => by rw [lxZ_nilcons, lxZ_consnil]
  | a :: x, b :: y => by
    rw [lxZ_cons, lxZ_cons]
    by_cases h1 : a < b
    · rw [if_neg (by omega), if_pos h1, if_pos h1]; rfl
    · by_cases h2 : b < a
      · rw [if_pos h2, if_neg h1, if_pos h2]
      · rw [if_neg h2, if_neg h1, if_neg h1, if_neg h2, lxZ_neg x y]
theorem lxZ_bd : ∀ x y : List Int, lxZ x y = -1 ∨ lxZ x y = 0 ∨ lxZ x y = 1
  | [], [] => by rw [lxZ_nilnil]; simp
  | [], b :: y => by rw [lxZ_nilcons]; simp
  | a :: x, [] => by rw [lxZ_consnil]; simp
  | a :: x, b :: y => by
    rw [lxZ_cons]
    split
    · simp
    · split
      · simp
      · exact lxZ_bd x y
theorem lxZ_zero : ∀ {x y : List Int}, lxZ x y = 0 → x = y
  | [], [], _ => rfl
  | [], b :: y, h => by rw [lxZ_nilcons] at h; cases h
  | a :: x, [], h => by rw [lxZ_consnil] at h; cases h
  | a :: x, b :: y, h => by
    rw [lxZ_cons] at h
    split at h
    · cases h
    · split at h
      · cases h
      · rw [lxZ_zero h, show a = b by omega]
theorem lxZ_trans : ∀ {x y z : List Int}, lxZ x y ≤ 0 → lxZ y z ≤ 0 → lxZ x z ≤ 0
  | [], _, [], _, _ => by rw [lxZ_nilnil]; omega
  | [], _, _ :: _, _, _ => by rw [lxZ_nilcons]; omega
  | a :: x, [], _, h, _ => by rw [lxZ_consnil] at h; omega
  | a :: x, b :: y, [], _, h => by rw [lxZ_consnil] at h; omega
  | a :: x, b :: y, c :: z, h1, h2 => by
    rw [lxZ_cons] at h1 h2 ⊢
    split at h1
    · split at h2
      · rw [if_pos (by omega)]; omega
      · split at h2
        · omega
        · rw [if_pos (by omega)]; omega
    · split at h1
      · omega
      · split at h2
        · rw [if_pos (by omega)]; omega
        · split at h2
          · omega
          · rw [if_neg (by omega), if_neg (by omega)]
            exact lxZ_trans h1 h2
theorem key_inj {p q : RV} (h : RV.key p = RV.key q) : p = q := by
  unfold RV.key at h
  injection h with h1 h2
  injection h2 with h2 h3
  exact Prod.ext h1 (Prod.ext h2 h3)
theorem rcZ_self (p : RV) : rcZ p p = 0 := lxZ_self _
theorem rcZ_neg (p q : RV) : rcZ q p = - rcZ p q := lxZ_neg _ _
theorem rcZ_zero {p q : RV} (h : rcZ p q = 0) : p = q := key_inj (lxZ_zero h)
theorem rcZ_trans {p q r : RV} (h : rcZ p q ≤ 0) (k : rcZ q r ≤ 0) : rcZ p r ≤ 0 := lxZ_trans h k
theorem rcZ_bd (p q : RV) : rcZ p q = -1 ∨ rcZ p q = 0 ∨ rcZ p q = 1 := lxZ_bd _ _
theorem rcZ_of (p q : RV) : rcZ p q = if p.1 < q.1 then -1 else if q.1 < p.1 then 1 else if p.2.1 < q.2.1 then -1 else if q.2.1 < p.2.1 then 1 else lxZ p.2.2 q.2.2 := by
  unfold rcZ RV.key
  rw [lxZ_cons, lxZ_cons]

/-- Not after. -/
def leR (p q : RV) : Bool := decide (rcZ p q ≤ 0)
theorem leR_iff (p q : RV) : leR p q = true ↔ rcZ p q ≤ 0 := by unfold leR; simp
theorem leR_tr (a b c : RV) : leR a b = true → leR b c = true → leR a c = true := by rw [leR_iff, leR_iff, leR_iff]; exact rcZ_trans
theorem leR_to (a b : RV) : (leR a b || leR b a) = true := by
  rw [Bool.or_eq_true, leR_iff, leR_iff]
  have := rcZ_neg a b
  omega
theorem leR_anti {a b : RV} (h : leR a b = true) (k : leR b a = true) : a = b := by
  rw [leR_iff] at h k
  have := rcZ_neg a b
  exact rcZ_zero (by omega)
/-- The records in order. -/
def srt (L : List RV) : List RV := L.mergeSort leR
def isS (L : List RV) : Prop := L.Pairwise fun a b => leR a b = true
theorem srt_perm (L : List RV) : (srt L).Perm L := List.mergeSort_perm L leR
theorem srt_pw (L : List RV) : isS (srt L) := List.pairwise_mergeSort leR_tr leR_to L
theorem srt_len (L : List RV) : (srt L).length = L.length := (srt_perm L).length_eq
/-- There is but one list in order with the same records. -/
theorem srt_uniq {L M : List RV} (hp : M.Perm L) (hs : isS M) : M = srt L :=
  List.Perm.eq_of_pairwise (le := fun a b => leR a b = true) (fun _ _ _ _ h1 h2 => leR_anti h1 h2) hs (srt_pw L) (hp.trans (srt_perm L).symm)
/-- A record is put behind all that are not after it. -/
theorem isS_put {L : List RV} {r : RV} {k : Nat} (hs : isS L) (h1 : ∀ p ∈ L.drop k, leR r p = true) (h2 : k = 0 ∨ ∃ p, L[k - 1]? = some p ∧ leR p r = true) : isS (L.take k ++ r :: L.drop k) := by
  unfold isS at hs ⊢
  rw [← List.take_append_drop k L, List.pairwise_append] at hs
  obtain ⟨s1, s2, s3⟩ := hs
  refine List.pairwise_append.2 ⟨s1, List.pairwise_cons.2 ⟨h1, s2⟩, fun a ha b hb => ?_⟩
  have har : leR a r = true := by
    rcases h2 with h2 | ⟨p, hp, hpr⟩
    · subst h2; simp at ha
    · obtain ⟨j, hj, e⟩ := List.mem_take_iff_getElem.1 ha
      by_cases hjk : j = k - 1
      · subst hjk
        rw [List.getElem?_eq_getElem (by omega)] at hp
        injection hp with hp
        rw [← e, hp]
        exact hpr
      · have hkl : k - 1 < L.length := (List.getElem?_eq_some_iff.1 hp).1
        have : leR L[j] L[k - 1] = true := by
          have hpw := s1
          rw [List.pairwise_iff_getElem] at hpw
          have := hpw j (k - 1) (by rw [List.length_take]; omega) (by rw [List.length_take]; omega) (by omega)
          simpa using this
        rw [List.getElem?_eq_getElem hkl] at hp
        injection hp with hp
        rw [← e]
        exact leR_tr _ _ _ this (by rw [hp]; exact hpr)
  rcases List.mem_cons.1 hb with rfl | hb
  · exact har
  · exact s3 a ha b hb
theorem put_perm {α : Type} (L : List α) (r : α) (k : Nat) : (L.take k ++ r :: L.drop k).Perm (L ++ [r]) := by
  have : (L.take k ++ r :: L.drop k).Perm (r :: (L.take k ++ L.drop k)) := List.perm_middle
  rw [List.take_append_drop] at this
  exact this.trans (List.perm_append_singleton r L).symm
/-- Two lists are the same if and only if their sorted lists are equal, record by record. -/
def sameB (A B : List RV) : Bool := decide (srt A = srt B)

/-- Is it a record, are they data, for a valid schema? -/
def rokB (S : List (ByteArray × Int)) (q : RV) : Bool := inB q.1 0 29 && inB q.2.1 0 999 && fitB S q.2.2
def dokB (S : List (ByteArray × Int)) (Q : List RV) : Bool := decide (Q.length ≤ 40) && Q.all (rokB S)
theorem dokB_len {S : List (ByteArray × Int)} {Q : List RV} (h : dokB S Q = true) : Q.length ≤ 40 := by
  unfold dokB at h
  simp only [Bool.and_eq_true, decide_eq_true_eq] at h
  exact h.1
theorem dokB_mem {S : List (ByteArray × Int)} {Q : List RV} (h : dokB S Q = true) {q : RV} (hq : q ∈ Q) : rokB S q = true := by
  unfold dokB at h
  simp only [Bool.and_eq_true, decide_eq_true_eq, List.all_eq_true] at h
  exact h.2 q hq
theorem dokB_long {S : List (ByteArray × Int)} {Q : List RV} (h : 40 < Q.length) : dokB S Q = false := by unfold dokB; rw [decide_eq_false (by omega)]; rfl
theorem dokB_bad {S : List (ByteArray × Int)} {Q : List RV} {i : Nat} {q : RV} (h : Q[i]? = some q) (hq : rokB S q = false) : dokB S Q = false := by
  unfold dokB
  rw [Bool.and_eq_false_iff]
  right
  rw [List.all_eq_false]
  exact ⟨q, List.mem_of_getElem? h, by rw [hq]; simp⟩
theorem dokB_all {S : List (ByteArray × Int)} {Q : List RV} (h : ∀ j, j < Q.length → ∃ q, Q[j]? = some q ∧ rokB S q = true) : dokB S Q = decide (Q.length ≤ 40) := by
  unfold dokB
  have : Q.all (rokB S) = true := by
    rw [List.all_eq_true]
    intro q hq
    obtain ⟨j, hj, e⟩ := List.getElem_of_mem hq
    obtain ⟨p, hp, hr⟩ := h j hj
    rw [List.getElem?_eq_getElem hj, e] at hp
    injection hp with hp
    rw [hp]; exact hr
  rw [this, Bool.and_true]
theorem rokB_get {S : List (ByteArray × Int)} {q : RV} (h : rokB S q = true) : 0 ≤ q.1 ∧ q.1 ≤ 29 ∧ 0 ≤ q.2.1 ∧ q.2.1 ≤ 999 ∧ fitB S q.2.2 = true := by
  unfold rokB at h
  rw [Bool.and_eq_true, Bool.and_eq_true, inB_iff, inB_iff] at h
  exact ⟨h.1.1.1, h.1.1.2, h.1.2.1, h.1.2.2, h.2⟩
/-- A schema, a record; a schema, data. -/
def irB (S : List (ByteArray × Int)) (q : RV) : Bool := schB S && rokB S q
def idB (S : List (ByteArray × Int)) (Q : List RV) : Bool := schB S && dokB S Q
end Go.Proofs.Ytgkaalonmkcclaa

namespace Go.Proofs.Ytgkaalonmkcclaa
open Go.RowKit

/-- The variables that a list names; the values of these. -/
def tbS (S : List (ByteArray × Int)) (F : List Int) : List (ByteArray × Int) := F.map fun i => S.getD i.toNat (⟨#[]⟩, 0)
def tbV (V : List Int) (F : List Int) : List Int := F.map fun i => V.getD i.toNat 0
theorem tbS_len (S : List (ByteArray × Int)) (F : List Int) : (tbS S F).length = F.length := by unfold tbS; rw [List.length_map]
theorem tbV_len (V F : List Int) : (tbV V F).length = F.length := by unfold tbV; rw [List.length_map]
theorem tbS_at {S : List (ByteArray × Int)} {F : List Int} {k : Nat} {i : Int} {p : ByteArray × Int} (h : F[k]? = some i) (hp : S[i.toNat]? = some p) : (tbS S F)[k]? = some p := by
  unfold tbS
  rw [List.getElem?_map, h]
  simp [List.getD_eq_getElem?_getD, hp]
theorem tbV_at {V F : List Int} {k : Nat} {i v : Int} (h : F[k]? = some i) (hp : V[i.toNat]? = some v) : (tbV V F)[k]? = some v := by
  unfold tbV
  rw [List.getElem?_map, h]
  simp [List.getD_eq_getElem?_getD, hp]
theorem tbS_snoc (S : List (ByteArray × Int)) {F : List Int} {k : Nat} {i : Int} {p : ByteArray × Int} (h : F[k]? = some i) (hp : S[i.toNat]? = some p) : tbS S (F.take (k + 1)) = tbS S (F.take k) ++ [p] := by
  unfold tbS
  rw [take_snoc h, List.map_append]
  simp [List.getD_eq_getElem?_getD, hp]
theorem tbV_snoc (V : List Int) {F : List Int} {k : Nat} {i v : Int} (h : F[k]? = some i) (hp : V[i.toNat]? = some v) : tbV V (F.take (k + 1)) = tbV V (F.take k) ++ [v] := by
  unfold tbV
  rw [take_snoc h, List.map_append]
  simp [List.getD_eq_getElem?_getD, hp]
theorem rsU_pw {n : Int} : ∀ {b : Int} {F : List Int}, rsU n b F = true → F.Pairwise (fun a c => a < c)
  | _, [], _ => List.Pairwise.nil
  | b, v :: r, h => by
    unfold rsU at h
    rw [Bool.and_eq_true, decide_eq_true_eq] at h
    exact List.Pairwise.cons (fun u hu => by have := rs_bd h.2 u hu; omega) (rsU_pw h.2)
theorem rsU_len {n : Int} : ∀ {b : Int} {F : List Int}, rsU n b F = true → 0 ≤ b → b ≤ n → (F.length : Int) ≤ n - b
  | b, [], _, _, h => by simp; omega
  | b, v :: r, h, h0, h1 => by
    unfold rsU at h
    rw [Bool.and_eq_true, decide_eq_true_eq] at h
    have := rsU_len h.2 (by omega) (by omega)
    simp only [List.length_cons]
    omega
theorem rsB_len {S : List (ByteArray × Int)} {F : List Int} (h : rsB S F = true) : F.length ≤ S.length := by
  have := rsU_len h (by omega) (by omega)
  omega
theorem rsB_bd {S : List (ByteArray × Int)} {F : List Int} (h : rsB S F = true) {k : Nat} {i : Int} (hk : F[k]? = some i) : 0 ≤ i ∧ i < S.length ∧ i.toNat < S.length := by
  have := rs_bd h i (List.mem_of_getElem? hk)
  omega
theorem tbS_get {S : List (ByteArray × Int)} {F : List Int} (h : rsB S F = true) {k : Nat} {p : ByteArray × Int} (hk : (tbS S F)[k]? = some p) : ∃ i : Int, F[k]? = some i ∧ S[i.toNat]? = some p := by
  unfold tbS at hk
  rw [List.getElem?_map, Option.map_eq_some_iff] at hk
  obtain ⟨i, hi, e⟩ := hk
  have := (rsB_bd h hi).2.2
  rw [List.getD_eq_getElem?_getD, List.getElem?_eq_getElem this, Option.getD_some] at e
  exact ⟨i, hi, by rw [List.getElem?_eq_getElem this, e]⟩
theorem tbS_ok {S : List (ByteArray × Int)} {F : List Int} (hs : schB S = true) (h : rsB S F = true) : PtS (tbS S F) := by
  cases F with
  | nil => exact Or.inl rfl
  | cons f r =>
    right
    have hl := rsB_len h
    have h6 := schB_len hs
    rw [schB_of (by rw [tbS_len]; simp) (by rw [tbS_len]; omega), upB_iff]
    refine ⟨fun p hp => ?_, ?_⟩
    · obtain ⟨k, hk, e⟩ := List.getElem_of_mem hp
      obtain ⟨i, -, hi⟩ := tbS_get h (k := k) (p := p) (by rw [List.getElem?_eq_getElem hk, e])
      exact schB_va hs (List.mem_of_getElem? hi)
    · have hpw : (f :: r).Pairwise (fun a c => a < c) := rsU_pw h
      have hnd := ((upB_iff S).1 (schB_up hs)).2
      unfold ky tbS
      rw [List.map_map]
      show ((f :: r).map _).Pairwise (· ≠ ·)
      rw [List.pairwise_map]
      refine hpw.imp_of_mem fun {a c} ha hc hlt heq => ?_
      obtain ⟨ka, hka, ea⟩ := List.getElem_of_mem ha
      obtain ⟨kc, hkc, ec⟩ := List.getElem_of_mem hc
      have ba := rsB_bd h (k := ka) (i := a) (by rw [List.getElem?_eq_getElem hka, ea])
      have bc := rsB_bd h (k := kc) (i := c) (by rw [List.getElem?_eq_getElem hkc, ec])
      simp only [Function.comp, List.getD_eq_getElem?_getD, List.getElem?_eq_getElem ba.2.2, List.getElem?_eq_getElem bc.2.2, Option.getD_some] at heq
      have hla : a.toNat < (ky S).length := by unfold ky; rw [List.length_map]; exact ba.2.2
      have hlc : c.toNat < (ky S).length := by unfold ky; rw [List.length_map]; exact bc.2.2
      have := List.pairwise_iff_getElem.1 hnd a.toNat c.toNat hla hlc (by omega)
      have e1 : ∀ (i : Nat) (hi : i < (ky S).length) (h2 : i < S.length), (ky S)[i] = nmL S[i].1 := fun i hi h2 => by simp [ky]
      rw [e1 _ _ ba.2.2, e1 _ _ bc.2.2] at this
      exact this heq
theorem tbV_fit {S : List (ByteArray × Int)} {V F : List Int} (hf : fitB S V = true) (h : rsB S F = true) : fitB (tbS S F) (tbV V F) = true := by
  refine fit_all (by rw [tbS_len, tbV_len]) fun k hk => ?_
  have hk' : k < (tbS S F).length := hk
  obtain ⟨i, hi, hp⟩ := tbS_get h (k := k) (p := (tbS S F)[k]) (List.getElem?_eq_getElem hk')
  have hlt := (rsB_bd h hi).2.2
  have hv : V[i.toNat]? = some (V[i.toNat]'(by rw [fit_len hf]; exact hlt)) := List.getElem?_eq_getElem _
  have := fit_get hf (nm := ((tbS S F)[k]).1) (lv := ((tbS S F)[k]).2) hp hv
  exact ⟨((tbS S F)[k]).1, ((tbS S F)[k]).2, _, List.getElem?_eq_getElem hk', tbV_at hi hv, this.1, this.2⟩
/-- Conditions: a set of levels for each variable, none counts as all. -/
def twB (S : List (ByteArray × Int)) (W : List Int) : Bool := decide (W.length = S.length) && (S.zip W).all fun q => inB q.2 0 (2 ^ q.1.2.toNat - 1)
theorem tw_len {S : List (ByteArray × Int)} {W : List Int} (h : twB S W = true) : W.length = S.length := by unfold twB at h; simp only [Bool.and_eq_true, decide_eq_true_eq] at h; exact h.1
theorem tw_no {S : List (ByteArray × Int)} {W : List Int} (h : W.length ≠ S.length) : twB S W = false := by unfold twB; rw [decide_eq_false h]; rfl
theorem tw_bad {S : List (ByteArray × Int)} {W : List Int} {i : Nat} {nm : ByteArray} {lv x : Int} (h1 : S[i]? = some (nm, lv)) (h2 : W[i]? = some x) (h : inB x 0 (2 ^ lv.toNat - 1) = false) : twB S W = false := by
  unfold twB
  have : ((S.zip W).all fun q => inB q.2 0 (2 ^ q.1.2.toNat - 1)) = false := by
    rw [List.all_eq_false]
    exact ⟨((nm, lv), x), List.mem_of_getElem? (zip_at h1 h2), by rw [h]; decide⟩
  rw [this, Bool.and_false]
theorem tw_all {S : List (ByteArray × Int)} {W : List Int} (hl : W.length = S.length) (h : ∀ j, j < S.length → ∃ nm lv x, S[j]? = some (nm, lv) ∧ W[j]? = some x ∧ inB x 0 (2 ^ lv.toNat - 1) = true) : twB S W = true := by
  unfold twB
  rw [decide_eq_true hl, Bool.true_and, List.all_eq_true]
  intro q hq
  obtain ⟨j, hj, e⟩ := List.getElem_of_mem hq
  obtain ⟨nm, lv, x, a, b, c⟩ := h j (by rw [List.length_zip] at hj; omega)
  have e2 := List.getElem?_eq_getElem hj
  rw [zip_at a b, e] at e2
  cases e2
  exact c
theorem tw_get {S : List (ByteArray × Int)} {W : List Int} (hs : schB S = true) (h : twB S W = true) {i : Nat} {x : Int} (h2 : W[i]? = some x) : ∃ nm lv, S[i]? = some (nm, lv) ∧ 2 ≤ lv ∧ lv ≤ 8 ∧ 0 ≤ x ∧ x ≤ flZ lv ∧ x ≤ 255 := by
  have hi : i < S.length := by rw [← tw_len h]; exact (List.getElem?_eq_some_iff.1 h2).1
  have h1 : S[i]? = some (S[i].1, S[i].2) := List.getElem?_eq_getElem hi
  have hl := schB_lv hs h1
  refine ⟨_, _, h1, hl.1, hl.2, ?_⟩
  by_cases hb : inB x 0 (2 ^ (S[i].2).toNat - 1) = true
  · have hb2 := (inB_iff _ _ _).1 hb
    have := flZ_bd hl
    unfold flZ at this ⊢
    exact ⟨hb2.1, hb2.2, by omega⟩
  · rw [tw_bad h1 h2 (by simpa using hb)] at h
    cases h
/-- Are values in the sets of the conditions? -/
def tmB (W V : List Int) : Bool := (W.zip V).all fun q => decide (q.1 = 0) || hsB q.1 q.2
theorem tm_bad {W V : List Int} {i : Nat} {x v : Int} (h1 : W[i]? = some x) (h2 : V[i]? = some v) (h : x ≠ 0) (k : hsB x v = false) : tmB W V = false := by
  unfold tmB
  rw [List.all_eq_false]
  refine ⟨(x, v), List.mem_of_getElem? (List.getElem?_zip_eq_some.2 ⟨h1, h2⟩), ?_⟩
  simp only
  rw [decide_eq_false h, k]
  decide
theorem tm_all {W V : List Int} (h : ∀ j, j < W.length → ∃ x v, W[j]? = some x ∧ V[j]? = some v ∧ (x = 0 ∨ hsB x v = true)) : tmB W V = true := by
  unfold tmB
  rw [List.all_eq_true]
  intro q hq
  obtain ⟨j, hj, e⟩ := List.getElem_of_mem hq
  obtain ⟨x, v, a, b, c⟩ := h j (by rw [List.length_zip] at hj; omega)
  have e2 := List.getElem?_eq_getElem hj
  rw [List.getElem?_zip_eq_some.2 (show W[j]? = some (x, v).1 ∧ V[j]? = some (x, v).2 from ⟨a, b⟩), e] at e2
  cases e2
  simp only
  rcases c with c | c
  · rw [decide_eq_true c]; rfl
  · rw [c, Bool.or_true]

/-- How many cells; is it a table? -/
def tcZ (P : List Int) (S : List (ByteArray × Int)) (l : Int) (F : List Int) : Int := ((lvL P l).length : Int) * cnZ (tbS S F)
def tgB (P : List Int) (S : List (ByteArray × Int)) (l : Int) (F W : List Int) (m : Int) : Bool :=
  geB P && (schB S && (rsB S F && (twB S W && (inB m (-1) ((S.length : Int) - 1) && (decide (0 < (lvL P l).length) && decide (tcZ P S l F ≤ 600))))))
structure TgP (P : List Int) (S : List (ByteArray × Int)) (l : Int) (F W : List Int) (m : Int) : Prop where
  g : geB P = true
  s : schB S = true
  r : rsB S F = true
  w : twB S W = true
  m0 : -1 ≤ m
  m1 : m < S.length
  v : 0 < (lvL P l).length
  c : tcZ P S l F ≤ 600
theorem tg_iff {P : List Int} {S : List (ByteArray × Int)} {l : Int} {F W : List Int} {m : Int} : tgB P S l F W m = true ↔ TgP P S l F W m := by
  unfold tgB
  simp only [Bool.and_eq_true, decide_eq_true_eq, inB_iff]
  exact ⟨fun ⟨a, b, c, d, ⟨e0, e1⟩, f, g⟩ => ⟨a, b, c, d, e0, by omega, f, g⟩, fun ⟨a, b, c, d, e0, e1, f, g⟩ => ⟨a, b, c, d, ⟨e0, by omega⟩, f, g⟩⟩
theorem tg_no {P : List Int} {S : List (ByteArray × Int)} {l : Int} {F W : List Int} {m : Int} (h : ¬ TgP P S l F W m) : tgB P S l F W m = false := by
  rw [← Bool.not_eq_true, tg_iff]; exact h
theorem lvL_len (P : List Int) (l : Int) : (lvL P l).length ≤ P.length := sel_len _ _
theorem tc_bd {P : List Int} {S : List (ByteArray × Int)} {l : Int} {F : List Int} (hg : geB P = true) (hs : schB S = true) (h : rsB S F = true) : 0 ≤ tcZ P S l F ∧ tcZ P S l F ≤ 7864320 ∧ 1 ≤ cnZ (tbS S F) ∧ cnZ (tbS S F) ≤ 262144 := by
  have hc := pt_cn (tbS_ok hs h)
  have hl := lvL_len P l
  have h30 := (ge_len hg).2
  unfold tcZ
  generalize cnZ (tbS S F) = c at hc ⊢
  generalize (lvL P l).length = n at hl ⊢
  have p1 : (n : Int) * c ≤ 30 * 262144 := Int.mul_le_mul (by omega) hc.2 (by omega) (by omega)
  exact ⟨Int.mul_nonneg (by omega) (by omega), by omega, hc.1, hc.2⟩
theorem tc_pos {P : List Int} {S : List (ByteArray × Int)} {l : Int} {F W : List Int} {m : Int} (h : TgP P S l F W m) : 1 ≤ tcZ P S l F := by
  have hc := pt_cn (tbS_ok h.s h.r)
  have hv := h.v
  unfold tcZ
  generalize cnZ (tbS S F) = c at hc ⊢
  generalize (lvL P l).length = n at hv ⊢
  have p1 : 1 * 1 ≤ (n : Int) * c := Int.mul_le_mul (by omega) hc.1 (by omega) (by omega)
  omega

/-- Where a number stands in a list, or -1. -/
def fdI (L : List Int) (n : Int) : Int := match L.findIdx? (· == n) with | some i => i | none => -1
theorem fdI_hit {L : List Int} {n : Int} {i : Nat} (h : L[i]? = some n) (hb : ∀ j, j < i → ¬ L[j]? = some n) : fdI L n = i := by
  unfold fdI
  have : L.findIdx? (· == n) = some i := by
    rw [List.findIdx?_eq_some_iff_getElem]
    obtain ⟨hi, e⟩ := List.getElem?_eq_some_iff.1 h
    refine ⟨hi, by simp [e], fun j hj => ?_⟩
    have := hb j hj
    rw [List.getElem?_eq_getElem (by omega : j < L.length)] at this
    simpa using this
  rw [this]
theorem fdI_miss {L : List Int} {n : Int} (h : ¬ n ∈ L) : fdI L n = -1 := by
  unfold fdI
  have : L.findIdx? (· == n) = none := by
    rw [List.findIdx?_eq_none_iff]
    intro x hx
    simp only [beq_eq_false_iff_ne, ne_eq]
    rintro rfl
    exact h hx
  rw [this]
theorem fdI_mem {L : List Int} {n : Int} (h : n ∈ L) : ∃ i : Nat, fdI L n = i ∧ L[i]? = some n ∧ i < L.length := by
  unfold fdI
  cases hf : L.findIdx? (· == n) with
  | none =>
    rw [List.findIdx?_eq_none_iff] at hf
    have := hf n h
    simp at this
  | some i =>
    rw [List.findIdx?_eq_some_iff_getElem] at hf
    obtain ⟨hi, e, -⟩ := hf
    simp at e
    exact ⟨i, rfl, by rw [List.getElem?_eq_getElem hi, e], hi⟩
theorem fdI_bd (L : List Int) (n : Int) : -1 ≤ fdI L n ∧ fdI L n < L.length := by
  by_cases h : n ∈ L
  · obtain ⟨i, e, -, hi⟩ := fdI_mem h
    omega
  · rw [fdI_miss h]
    omega
theorem fdI_neg {L : List Int} {n : Int} : 0 ≤ fdI L n ↔ n ∈ L := by
  by_cases h : n ∈ L
  · obtain ⟨i, e, -, -⟩ := fdI_mem h
    exact ⟨fun _ => h, fun _ => by omega⟩
  · rw [fdI_miss h]
    exact ⟨fun k => by omega, fun k => absurd k h⟩

/-- The cell of an area and values. -/
def ceZ (P : List Int) (S : List (ByteArray × Int)) (l : Int) (F : List Int) (a : Int) (V : List Int) : Int := fdI (lvL P l) a * cnZ (tbS S F) + ixZ (tbS S F) V
theorem ce_bd {P : List Int} {S : List (ByteArray × Int)} {l : Int} {F W : List Int} {m a : Int} {V : List Int} (h : TgP P S l F W m) (ha : a ∈ lvL P l) (hf : fitB (tbS S F) V = true) :
    0 ≤ fdI (lvL P l) a * cnZ (tbS S F) ∧ fdI (lvL P l) a * cnZ (tbS S F) ≤ 600 ∧ 0 ≤ ceZ P S l F a V ∧ ceZ P S l F a V < tcZ P S l F := by
  obtain ⟨i, e, -, hi⟩ := fdI_mem ha
  have hp := tbS_ok h.s h.r
  have hc := pt_cn hp
  have hx := pt_ix hp hf
  have h6 := h.c
  unfold ceZ tcZ at *
  rw [e]
  generalize cnZ (tbS S F) = c at *
  generalize ixZ (tbS S F) V = x at *
  generalize (lvL P l).length = n at *
  have p1 : ((i : Int) + 1) * c ≤ (n : Int) * c := Int.mul_le_mul_of_nonneg_right (by omega) (by omega)
  have p2 : 0 ≤ (i : Int) * c := Int.mul_nonneg (by omega) (by omega)
  rw [Int.add_mul] at p1
  omega

/-- The area of a level above an area is one of that level. -/
theorem an_lv {P : List Int} (hg : geB P = true) {i : Nat} (hi : i < P.length) {l : Int} (h : 0 ≤ anZ P i l) : anZ P i l ∈ lvL P l := by
  have hb := (an_bd hg hi l).2.2.1 h
  obtain ⟨n, rfl⟩ := Int.eq_ofNat_of_zero_le hb.1
  have hn : n ≤ dpN P i := by omega
  revert hn
  refine ge_ind hg (Q := fun i => n ≤ dpN P i → anZ P i n ∈ lvL P n) (fun h0 => ?_) (fun i p hi hp hl ih h0 => ?_) i hi
  · rw [dp_zero] at h0
    obtain rfl : n = 0 := by omega
    rw [an_at (l := 0) (v := 0) (by rw [pt_zero]; rfl)]
    exact sel_mem.2 ⟨0, rfl, by have := ge_len hg; omega, by rw [dp_zero]; rfl⟩
  · have hd := dp_step hp hl
    have h0' : n ≤ dpN P i := h0
    rcases Nat.lt_or_ge (dpN P p) n with h1 | h1
    · obtain rfl : n = dpN P i := by omega
      rw [an_at (pt_last P)]
      exact sel_mem.2 ⟨i, rfl, hi, decide_eq_true rfl⟩
    · have e : anZ P i n = anZ P p n := by
        have hlt : n < (ptL P p).length := by rw [pt_len]; omega
        have hat : (ptL P p)[n]? = some ((ptL P p)[n]) := List.getElem?_eq_getElem hlt
        rw [an_at hat, an_at (v := (ptL P p)[n])]
        rw [pt_step hp hl, List.getElem?_append_left hlt, hat]
      show anZ P i n ∈ lvL P n
      rw [e]
      exact ih h1

/-- The cell and the amount of a record, or -1 and 0. -/
def clI (P : List Int) (S : List (ByteArray × Int)) (l : Int) (F W : List Int) (a : Int) (V : List Int) : Int := if 0 ≤ anZ P a.toNat l ∧ tmB W V = true then ceZ P S l F (anZ P a.toNat l) (tbV V F) else -1
def clN (P : List Int) (l : Int) (W : List Int) (m : Int) (a : Int) (V : List Int) : Int := if 0 ≤ anZ P a.toNat l ∧ tmB W V = true then (if m < 0 then 1 else V.getD m.toNat 0) else 0
theorem cl_no {P : List Int} {S : List (ByteArray × Int)} {l : Int} {F W : List Int} {m a : Int} {V : List Int} (h : ¬ (0 ≤ anZ P a.toNat l ∧ tmB W V = true)) : clI P S l F W a V = -1 ∧ clN P l W m a V = 0 := ⟨if_neg h, if_neg h⟩
theorem cl_yes {P : List Int} {S : List (ByteArray × Int)} {l : Int} {F W : List Int} {a : Int} {V : List Int} (h : 0 ≤ anZ P a.toNat l) (k : tmB W V = true) : clI P S l F W a V = ceZ P S l F (anZ P a.toNat l) (tbV V F) := if_pos ⟨h, k⟩
theorem cl_one {P : List Int} {l : Int} {W : List Int} {m a : Int} {V : List Int} (h : 0 ≤ anZ P a.toNat l) (k : tmB W V = true) (hm : m < 0) : clN P l W m a V = 1 := by unfold clN; rw [if_pos ⟨h, k⟩, if_pos hm]
theorem cl_val {P : List Int} {l : Int} {W : List Int} {m a v : Int} {V : List Int} (h : 0 ≤ anZ P a.toNat l) (k : tmB W V = true) (hm : 0 ≤ m) (hv : V[m.toNat]? = some v) : clN P l W m a V = v := by
  unfold clN
  rw [if_pos ⟨h, k⟩, if_neg (by omega), List.getD_eq_getElem?_getD, hv]
  rfl
theorem cl_bd {P : List Int} {S : List (ByteArray × Int)} {l : Int} {F W : List Int} {m a : Int} {V : List Int} (h : TgP P S l F W m) (ha : a.toNat < P.length) (hf : fitB S V = true) :
    -1 ≤ clI P S l F W a V ∧ clI P S l F W a V < tcZ P S l F ∧ 0 ≤ clN P l W m a V ∧ clN P l W m a V ≤ 8 := by
  by_cases hk : 0 ≤ anZ P a.toNat l ∧ tmB W V = true
  · rw [cl_yes hk.1 hk.2]
    have := ce_bd h (an_lv h.g ha hk.1) (tbV_fit hf h.r)
    refine ⟨by omega, this.2.2.2, ?_⟩
    by_cases hm : m < 0
    · rw [cl_one hk.1 hk.2 hm]; omega
    · have hi : m.toNat < S.length := by have := h.m1; omega
      have hs : S[m.toNat]? = some (S[m.toNat].1, S[m.toNat].2) := List.getElem?_eq_getElem hi
      have hv : V[m.toNat]? = some (V[m.toNat]'(by rw [fit_len hf]; exact hi)) := List.getElem?_eq_getElem _
      rw [cl_val hk.1 hk.2 (by omega) hv]
      have h1 := fit_get hf hs hv
      have h2 := schB_lv h.s hs
      omega
  · obtain ⟨e1, e2⟩ := cl_no (S := S) (F := F) (m := m) hk
    rw [e1, e2]
    have := tc_pos h
    omega

/-- A survey; what the functions answer. -/
def tyB (P : List Int) (M : List RV) : Bool := M.all fun r => (lfL P).contains r.1
end Go.Proofs.Ytgkaalonmkcclaa

namespace Go.Proofs.Ytgkaalonmkcclaa
open Go.RowKit
set_option maxRecDepth 100000

/-- Block g holds a record. -/
def RB (w : World) (g : Nat) (a h : Int) (x : Option Addr) (n c : Nat) : Prop :=
  w.cell? ⟨g, 0, none⟩ = some (.int .i64 a) ∧ w.cell? ⟨g, 1, none⟩ = some (.int .i64 h) ∧ w.cell? ⟨g, 2, none⟩ = some (.slice x n c) ∧ g < w.heap.size
theorem RB.new (w : World) (a h : Int) (x : Option Addr) (n c : Nat) (t : TypeId) : RB (w.alloc (.cells #[.int .i64 a, .int .i64 h, .slice x n c] t)) w.heap.size a h x n c := by
  have k := Wb.new w t #[.int .i64 a, .int .i64 h, .slice x n c]
  exact ⟨(k.read 0).trans rfl, (k.read 1).trans rfl, (k.read 2).trans rfl, k.inside⟩
theorem RB.below {w w' : World} {g : Nat} {a h : Int} {x : Option Addr} {n c : Nat} (k : RB w g a h x n c) (hb : Below w.heap.size w w') : RB w' g a h x n c :=
  ⟨(hb.cell k.2.2.2).trans k.1, (hb.cell k.2.2.2).trans k.2.1, (hb.cell k.2.2.2).trans k.2.2.1, Nat.lt_of_lt_of_le k.2.2.2 hb.size⟩
theorem RB.off {w w' : World} {lo hi g : Nat} {a h : Int} {x : Option Addr} {n c : Nat} (k : RB w g a h x n c) (hg : Off lo hi w w') (hne : g < lo ∨ hi ≤ g) : RB w' g a h x n c := by
  have e := hg.block g k.2.2.2 hne
  exact ⟨(World.cell?_of_block (a := ⟨g, 0, none⟩) e).trans k.1, (World.cell?_of_block (a := ⟨g, 1, none⟩) e).trans k.2.1, (World.cell?_of_block (a := ⟨g, 2, none⟩) e).trans k.2.2.1, Nat.lt_of_lt_of_le k.2.2.2 hg.size⟩

theorem rok_no {S : List (ByteArray × Int)} {a h : Int} {L : List Int} (k : ¬ (0 ≤ a ∧ a ≤ 29) ∨ ¬ (0 ≤ h ∧ h ≤ 999)) : rokB S (a, h, L) = false := by
  unfold rokB
  rcases k with k | k
  · rw [(inB_no a 0 29).2 k]; rfl
  · rw [(inB_no h 0 999).2 k, Bool.and_false]; rfl
theorem rok_yes {S : List (ByteArray × Int)} {a h : Int} {L : List Int} (k : 0 ≤ a ∧ a ≤ 29) (k2 : 0 ≤ h ∧ h ≤ 999) : rokB S (a, h, L) = fitB S L := by
  unfold rokB
  rw [(inB_iff a 0 29).2 k, (inB_iff h 0 999).2 k2]; rfl

set_option maxHeartbeats 2000000 in
theorem isRecordFor_any (x y : Option Addr) (c1 c2 : Nat) (S : List (ByteArray × Int)) (a h : Int) (L : List Int) (w : World) (hs : schB S = true) (hm : S.length ≤ 1048576) (hS : Rd w x (vC S)) (hL : IIn w y L) :
    Calls Try.prog 140 #[.slice x S.length c1, .agg #[.int .i64 a, .int .i64 h, .slice y L.length c2]] w fun e w' => e = .returned (.bool (rokB S (a, h, L))) ∧ Below w.heap.size w w' := by
  have hSh := Lib.hid hS
  have hLh := Lib.hid hL
  clear hS hL
  by_cases h1 : a < 0
  · skip
    have hv := Lib.hid (rok_no (S := S) (a := a) (h := h) (L := L) (Or.inl (by omega)))
    go_enter Try.func140, Try.ntmps140
    go_wp2
    go_ret
    exact ⟨ret_bool hv.out.symm, (by repeat (first | exact Below.refl _ _ | assumption | refine Below.drew ?_ | refine below_drewN ?_ _ | refine Below.alloc' ?_ _ | (refine Below.setCell ?_ (by first | omega | (simp; done) | (simp; omega) | exact Below.size (by assumption) | exact Nat.le_trans (Below.size (by assumption)) (by simp)) _) | (refine Below.via' ?_ (by assumption)) | (refine Below.alloc ?_ (by first | omega | (simp; done) | (simp; omega) | exact Below.size (by assumption) | exact Nat.le_trans (Below.size (by assumption)) (by simp)) _) | (refine Below.via ?_ (by assumption) (by first | omega | (simp; done) | (simp; omega) | exact Below.size (by assumption) | exact Nat.le_trans (Below.size (by assumption)) (by simp)))))⟩
  by_cases h2 : 29 < a
  · skip
    have hv := Lib.hid (rok_no (S := S) (a := a) (h := h) (L := L) (Or.inl (by omega)))
    go_enter Try.func140, Try.ntmps140
    go_wp2
    go_ret
    exact ⟨ret_bool hv.out.symm, (by repeat (first | exact Below.refl _ _ | assumption | refine Below.drew ?_ | refine below_drewN ?_ _ | refine Below.alloc' ?_ _ | (refine Below.setCell ?_ (by first | omega | (simp; done) | (simp; omega) | exact Below.size (by assumption) | exact Nat.le_trans (Below.size (by assumption)) (by simp)) _) | (refine Below.via' ?_ (by assumption)) | (refine Below.alloc ?_ (by first | omega | (simp; done) | (simp; omega) | exact Below.size (by assumption) | exact Nat.le_trans (Below.size (by assumption)) (by simp)) _) | (refine Below.via ?_ (by assumption) (by first | omega | (simp; done) | (simp; omega) | exact Below.size (by assumption) | exact Nat.le_trans (Below.size (by assumption)) (by simp)))))⟩
  by_cases h3 : h < 0
  · skip
    have hv := Lib.hid (rok_no (S := S) (a := a) (h := h) (L := L) (Or.inr (by omega)))
    go_enter Try.func140, Try.ntmps140
    go_wp2
    go_ret
    exact ⟨ret_bool hv.out.symm, (by repeat (first | exact Below.refl _ _ | assumption | refine Below.drew ?_ | refine below_drewN ?_ _ | refine Below.alloc' ?_ _ | (refine Below.setCell ?_ (by first | omega | (simp; done) | (simp; omega) | exact Below.size (by assumption) | exact Nat.le_trans (Below.size (by assumption)) (by simp)) _) | (refine Below.via' ?_ (by assumption)) | (refine Below.alloc ?_ (by first | omega | (simp; done) | (simp; omega) | exact Below.size (by assumption) | exact Nat.le_trans (Below.size (by assumption)) (by simp)) _) | (refine Below.via ?_ (by assumption) (by first | omega | (simp; done) | (simp; omega) | exact Below.size (by assumption) | exact Nat.le_trans (Below.size (by assumption)) (by simp)))))⟩
  by_cases h4 : 999 < h
  · skip
    have hv := Lib.hid (rok_no (S := S) (a := a) (h := h) (L := L) (Or.inr (by omega)))
    go_enter Try.func140, Try.ntmps140
    go_wp2
    go_ret
    exact ⟨ret_bool hv.out.symm, (by repeat (first | exact Below.refl _ _ | assumption | refine Below.drew ?_ | refine below_drewN ?_ _ | refine Below.alloc' ?_ _ | (refine Below.setCell ?_ (by first | omega | (simp; done) | (simp; omega) | exact Below.size (by assumption) | exact Nat.le_trans (Below.size (by assumption)) (by simp)) _) | (refine Below.via' ?_ (by assumption)) | (refine Below.alloc ?_ (by first | omega | (simp; done) | (simp; omega) | exact Below.size (by assumption) | exact Nat.le_trans (Below.size (by assumption)) (by simp)) _) | (refine Below.via ?_ (by assumption) (by first | omega | (simp; done) | (simp; omega) | exact Below.size (by assumption) | exact Nat.le_trans (Below.size (by assumption)) (by simp)))))⟩
  have hv := Lib.hid (rok_yes (S := S) (L := L) (a := a) (h := h) (by omega) (by omega))
  go_enter Try.func140, Try.ntmps140
  go_wp2_with fail
  refine (areValues_any _ _ _ _ S L _ hs hm (hSh.out.below (by exact (by repeat (first | exact Below.refl _ _ | assumption | refine Below.drew ?_ | refine below_drewN ?_ _ | refine Below.alloc' ?_ _ | (refine Below.setCell ?_ (by first | omega | (simp; done) | (simp; omega) | exact Below.size (by assumption) | exact Nat.le_trans (Below.size (by assumption)) (by simp)) _) | (refine Below.via' ?_ (by assumption)) | (refine Below.alloc ?_ (by first | omega | (simp; done) | (simp; omega) | exact Below.size (by assumption) | exact Nat.le_trans (Below.size (by assumption)) (by simp)) _) | (refine Below.via ?_ (by assumption) (by first | omega | (simp; done) | (simp; omega) | exact Below.size (by assumption) | exact Nat.le_trans (Below.size (by assumption)) (by simp))))))) (hLh.out.below (by exact (by repeat (first | exact Below.refl _ _ | assumption | refine Below.drew ?_ | refine below_drewN ?_ _ | refine Below.alloc' ?_ _ | (refine Below.setCell ?_ (by first | omega | (simp; done) | (simp; omega) | exact Below.size (by assumption) | exact Nat.le_trans (Below.size (by assumption)) (by simp)) _) | (refine Below.via' ?_ (by assumption)) | (refine Below.alloc ?_ (by first | omega | (simp; done) | (simp; omega) | exact Below.size (by assumption) | exact Nat.le_trans (Below.size (by assumption)) (by simp)) _) | (refine Below.via ?_ (by assumption) (by first | omega | (simp; done) | (simp; omega) | exact Below.size (by assumption) | exact Nat.le_trans (Below.size (by assumption)) (by simp)))))))).mono ?_
  rintro e w1 ⟨rfl, hb1⟩
  go_wp2
  go_ret
  exact ⟨ret_bool hv.out.symm, (by repeat (first | exact Below.refl _ _ | assumption | refine Below.drew ?_ | refine below_drewN ?_ _ | refine Below.alloc' ?_ _ | (refine Below.setCell ?_ (by first | omega | (simp; done) | (simp; omega) | exact Below.size (by assumption) | exact Nat.le_trans (Below.size (by assumption)) (by simp)) _) | (refine Below.via' ?_ (by assumption)) | (refine Below.alloc ?_ (by first | omega | (simp; done) | (simp; omega) | exact Below.size (by assumption) | exact Nat.le_trans (Below.size (by assumption)) (by simp)) _) | (refine Below.via ?_ (by assumption) (by first | omega | (simp; done) | (simp; omega) | exact Below.size (by assumption) | exact Nat.le_trans (Below.size (by assumption)) (by simp)))))⟩

set_option maxHeartbeats 2000000 in
theorem rGood_any (x y : Option Addr) (c1 c2 : Nat) (S : List (ByteArray × Int)) (a h : Int) (L : List Int) (w : World) (hs : schB S = true) (hm : S.length ≤ 1048576) (hS : Rd w x (vC S)) (hL : IIn w y L) :
    Calls Try.prog 90 #[.slice x S.length c1, .agg #[.int .i64 a, .int .i64 h, .slice y L.length c2]] w fun e w' => e = .returned (.bool (rokB S (a, h, L))) ∧ Below w.heap.size w w' := by
  have hSh := Lib.hid hS
  have hLh := Lib.hid hL
  clear hS hL
  cases h1 : inB a 0 29
  · have hv := Lib.hid (rok_no (S := S) (L := L) (h := h) (Or.inl ((inB_no _ _ _).1 h1)))
    go_enter Try.func90, Try.ntmps90
    go_wp2_with (go_at_call 79; refine (l1In_any _ _ _ _).mono ?_; rintro e w1 ⟨rfl, rfl⟩)
    go_ret
    exact ⟨ret_bool hv.out.symm, (by repeat (first | exact Below.refl _ _ | assumption | refine Below.drew ?_ | refine below_drewN ?_ _ | refine Below.alloc' ?_ _ | (refine Below.setCell ?_ (by first | omega | (simp; done) | (simp; omega) | exact Below.size (by assumption) | exact Nat.le_trans (Below.size (by assumption)) (by simp)) _) | (refine Below.via' ?_ (by assumption)) | (refine Below.alloc ?_ (by first | omega | (simp; done) | (simp; omega) | exact Below.size (by assumption) | exact Nat.le_trans (Below.size (by assumption)) (by simp)) _) | (refine Below.via ?_ (by assumption) (by first | omega | (simp; done) | (simp; omega) | exact Below.size (by assumption) | exact Nat.le_trans (Below.size (by assumption)) (by simp)))))⟩
  cases h2 : inB h 0 999
  · have hv := Lib.hid (rok_no (S := S) (L := L) (a := a) (Or.inr ((inB_no _ _ _).1 h2)))
    go_enter Try.func90, Try.ntmps90
    go_wp2_with (go_at_call 79; refine (l1In_any _ _ _ _).mono ?_; rintro e w1 ⟨rfl, rfl⟩)
    go_ret
    exact ⟨ret_bool hv.out.symm, (by repeat (first | exact Below.refl _ _ | assumption | refine Below.drew ?_ | refine below_drewN ?_ _ | refine Below.alloc' ?_ _ | (refine Below.setCell ?_ (by first | omega | (simp; done) | (simp; omega) | exact Below.size (by assumption) | exact Nat.le_trans (Below.size (by assumption)) (by simp)) _) | (refine Below.via' ?_ (by assumption)) | (refine Below.alloc ?_ (by first | omega | (simp; done) | (simp; omega) | exact Below.size (by assumption) | exact Nat.le_trans (Below.size (by assumption)) (by simp)) _) | (refine Below.via ?_ (by assumption) (by first | omega | (simp; done) | (simp; omega) | exact Below.size (by assumption) | exact Nat.le_trans (Below.size (by assumption)) (by simp)))))⟩
  have hv := Lib.hid (rok_yes (S := S) (L := L) (a := a) (h := h) ((inB_iff _ _ _).1 h1) ((inB_iff _ _ _).1 h2))
  go_enter Try.func90, Try.ntmps90
  go_wp2_with (first | (go_at_call 79; refine (l1In_any _ _ _ _).mono ?_; rintro e w1 ⟨rfl, rfl⟩) | (go_at_call 70; refine (sFits_any _ _ _ _ S L _ hs hm (hSh.out.below (by exact (by repeat (first | exact Below.refl _ _ | assumption | refine Below.drew ?_ | refine below_drewN ?_ _ | refine Below.alloc' ?_ _ | (refine Below.setCell ?_ (by first | omega | (simp; done) | (simp; omega) | exact Below.size (by assumption) | exact Nat.le_trans (Below.size (by assumption)) (by simp)) _) | (refine Below.via' ?_ (by assumption)) | (refine Below.alloc ?_ (by first | omega | (simp; done) | (simp; omega) | exact Below.size (by assumption) | exact Nat.le_trans (Below.size (by assumption)) (by simp)) _) | (refine Below.via ?_ (by assumption) (by first | omega | (simp; done) | (simp; omega) | exact Below.size (by assumption) | exact Nat.le_trans (Below.size (by assumption)) (by simp))))))) (hLh.out.below (by exact (by repeat (first | exact Below.refl _ _ | assumption | refine Below.drew ?_ | refine below_drewN ?_ _ | refine Below.alloc' ?_ _ | (refine Below.setCell ?_ (by first | omega | (simp; done) | (simp; omega) | exact Below.size (by assumption) | exact Nat.le_trans (Below.size (by assumption)) (by simp)) _) | (refine Below.via' ?_ (by assumption)) | (refine Below.alloc ?_ (by first | omega | (simp; done) | (simp; omega) | exact Below.size (by assumption) | exact Nat.le_trans (Below.size (by assumption)) (by simp)) _) | (refine Below.via ?_ (by assumption) (by first | omega | (simp; done) | (simp; omega) | exact Below.size (by assumption) | exact Nat.le_trans (Below.size (by assumption)) (by simp)))))))).mono ?_; rintro e w2 ⟨rfl, hb2⟩; obtain ⟨hcl2, hfr2⟩ := bcell hb2; have hz2 := hb2.size; (try simp at hz2); (try (have hly2 := Nat.lt_of_succ_le hz2)); (try (have hlx2 := Nat.lt_of_succ_lt hly2)); (try (have hlw2 := Nat.lt_of_succ_lt hlx2)); (try (have hle2 := Nat.le_of_lt hly2)); (try (have hya2 : w.heap.size < w2.heap.size := by omega)); (try (have hyb2 : w.heap.size + 1 < w2.heap.size := by omega)); (try (have hyc2 : w.heap.size + 1 + 1 < w2.heap.size := by omega)); (try (have hyd2 : wa.heap.size < w2.heap.size := by omega))))
  go_ret
  exact ⟨ret_bool hv.out.symm, (by repeat (first | exact Below.refl _ _ | assumption | refine Below.drew ?_ | refine below_drewN ?_ _ | refine Below.alloc' ?_ _ | (refine Below.setCell ?_ (by first | omega | (simp; done) | (simp; omega) | exact Below.size (by assumption) | exact Nat.le_trans (Below.size (by assumption)) (by simp)) _) | (refine Below.via' ?_ (by assumption)) | (refine Below.alloc ?_ (by first | omega | (simp; done) | (simp; omega) | exact Below.size (by assumption) | exact Nat.le_trans (Below.size (by assumption)) (by simp)) _) | (refine Below.via ?_ (by assumption) (by first | omega | (simp; done) | (simp; omega) | exact Below.size (by assumption) | exact Nat.le_trans (Below.size (by assumption)) (by simp)))))⟩

set_option maxHeartbeats 2000000 in
theorem areDataFor_any (x y : Option Addr) (c1 c2 : Nat) (S : List (ByteArray × Int)) (Q : List PR) (w : World) (hs : schB S = true) (hm : S.length ≤ 1048576) (hS : Rd w x (vC S)) (hQ : DIn w y Q) :
    Calls Try.prog 116 #[.slice x S.length c1, .slice y Q.length c2] w fun e w' => e = .returned (.bool (dokB S (pM Q))) ∧ Below w.heap.size w w' := by
  have hSh := Lib.hid hS
  have hQl := hQ.1
  have hQh := Lib.hid hQ
  clear hS hQ
  by_cases hlen : 40 < Q.length
  · have hv := Lib.hid (dokB_long (S := S) (Q := pM Q) (by rw [pM_len]; exact hlen))
    go_enter Try.func116, Try.ntmps116
    go_wp2
    go_ret
    exact ⟨ret_bool hv.out.symm, (by repeat (first | exact Below.refl _ _ | assumption | refine Below.drew ?_ | refine below_drewN ?_ _ | refine Below.alloc' ?_ _ | (refine Below.setCell ?_ (by first | omega | (simp; done) | (simp; omega) | exact Below.size (by assumption) | exact Nat.le_trans (Below.size (by assumption)) (by simp)) _) | (refine Below.via' ?_ (by assumption)) | (refine Below.alloc ?_ (by first | omega | (simp; done) | (simp; omega) | exact Below.size (by assumption) | exact Nat.le_trans (Below.size (by assumption)) (by simp)) _) | (refine Below.via ?_ (by assumption) (by first | omega | (simp; done) | (simp; omega) | exact Below.size (by assumption) | exact Nat.le_trans (Below.size (by assumption)) (by simp)))))⟩
  go_enter Try.func116, Try.ntmps116
  go_wp2
  go_loopw [12] (fun c wr => ∃ i : Nat, i ≤ Q.length ∧ c = .int .i64 i ∧ Hid (∀ j, j < i → ∃ q, (pM Q)[j]? = some q ∧ rokB S q = true) ∧ Below w.heap.size w wr) (fun c _ => Q.length - (intOf c).toNat)
  case atStart => exact ⟨0, by omega, rfl, (fun j hj => absurd hj (by omega)), (by repeat (first | exact Below.refl _ _ | assumption | refine Below.drew ?_ | refine below_drewN ?_ _ | refine Below.alloc' ?_ _ | (refine Below.setCell ?_ (by first | omega | (simp; done) | (simp; omega) | exact Below.size (by assumption) | exact Nat.le_trans (Below.size (by assumption)) (by simp)) _) | (refine Below.via' ?_ (by assumption)) | (refine Below.alloc ?_ (by first | omega | (simp; done) | (simp; omega) | exact Below.size (by assumption) | exact Nat.le_trans (Below.size (by assumption)) (by simp)) _) | (refine Below.via ?_ (by assumption) (by first | omega | (simp; done) | (simp; omega) | exact Below.size (by assumption) | exact Nat.le_trans (Below.size (by assumption)) (by simp)))))⟩
  case round =>
    obtain ⟨i, hi, rfl, hall, hb⟩ := hrel
    by_cases hlt : i < Q.length
    · obtain ⟨bl, off, q, rfl, hbl, hQi, hc0, hc1, hc2⟩ := (hQh.out.2.2.below hb).rec hlt
      have hq := Lib.hid ((hQh.out.2.1 q (List.mem_of_getElem? hQi)).2.2.below hb)
      have hlt' : (i : Int) < (Q.length : Int) := by omega
      have hi0 : (0 : Int) ≤ (i : Int) := by omega
      cases hr : rokB S (q.a, q.h, q.L)
      · have hv := Lib.hid (dokB_bad (S := S) (pM_at hQi) hr)
        clear hQi
        go_wp2_with fail
        refine (isRecordFor_any _ _ _ _ S q.a q.h q.L _ hs hm (hSh.out.below (by exact (by repeat (first | exact Below.refl _ _ | assumption | refine Below.drew ?_ | refine below_drewN ?_ _ | refine Below.alloc' ?_ _ | (refine Below.setCell ?_ (by first | omega | (simp; done) | (simp; omega) | exact Below.size (by assumption) | exact Nat.le_trans (Below.size (by assumption)) (by simp)) _) | (refine Below.via' ?_ (by assumption)) | (refine Below.alloc ?_ (by first | omega | (simp; done) | (simp; omega) | exact Below.size (by assumption) | exact Nat.le_trans (Below.size (by assumption)) (by simp)) _) | (refine Below.via ?_ (by assumption) (by first | omega | (simp; done) | (simp; omega) | exact Below.size (by assumption) | exact Nat.le_trans (Below.size (by assumption)) (by simp))))))) (hq.out.below (by exact (by repeat (first | exact Below.refl _ _ | assumption | refine Below.drew ?_ | refine below_drewN ?_ _ | refine Below.alloc' ?_ _ | (refine Below.setCell ?_ (by first | omega | (simp; done) | (simp; omega) | exact Below.size (by assumption) | exact Nat.le_trans (Below.size (by assumption)) (by simp)) _) | (refine Below.via' ?_ (by assumption)) | (refine Below.alloc ?_ (by first | omega | (simp; done) | (simp; omega) | exact Below.size (by assumption) | exact Nat.le_trans (Below.size (by assumption)) (by simp)) _) | (refine Below.via ?_ (by assumption) (by first | omega | (simp; done) | (simp; omega) | exact Below.size (by assumption) | exact Nat.le_trans (Below.size (by assumption)) (by simp)))))))).mono ?_
        rintro e w2 ⟨rfl, hb2⟩
        rw [hr]
        go_wp2
        go_ret
        exact ⟨ret_bool hv.out.symm, (by repeat (first | exact Below.refl _ _ | assumption | refine Below.drew ?_ | refine below_drewN ?_ _ | refine Below.alloc' ?_ _ | (refine Below.setCell ?_ (by first | omega | (simp; done) | (simp; omega) | exact Below.size (by assumption) | exact Nat.le_trans (Below.size (by assumption)) (by simp)) _) | (refine Below.via' ?_ (by assumption)) | (refine Below.alloc ?_ (by first | omega | (simp; done) | (simp; omega) | exact Below.size (by assumption) | exact Nat.le_trans (Below.size (by assumption)) (by simp)) _) | (refine Below.via ?_ (by assumption) (by first | omega | (simp; done) | (simp; omega) | exact Below.size (by assumption) | exact Nat.le_trans (Below.size (by assumption)) (by simp)))))⟩
      · replace hQi := Lib.hid hQi
        go_wp2_with fail
        refine (isRecordFor_any _ _ _ _ S q.a q.h q.L _ hs hm (hSh.out.below (by exact (by repeat (first | exact Below.refl _ _ | assumption | refine Below.drew ?_ | refine below_drewN ?_ _ | refine Below.alloc' ?_ _ | (refine Below.setCell ?_ (by first | omega | (simp; done) | (simp; omega) | exact Below.size (by assumption) | exact Nat.le_trans (Below.size (by assumption)) (by simp)) _) | (refine Below.via' ?_ (by assumption)) | (refine Below.alloc ?_ (by first | omega | (simp; done) | (simp; omega) | exact Below.size (by assumption) | exact Nat.le_trans (Below.size (by assumption)) (by simp)) _) | (refine Below.via ?_ (by assumption) (by first | omega | (simp; done) | (simp; omega) | exact Below.size (by assumption) | exact Nat.le_trans (Below.size (by assumption)) (by simp))))))) (hq.out.below (by exact (by repeat (first | exact Below.refl _ _ | assumption | refine Below.drew ?_ | refine below_drewN ?_ _ | refine Below.alloc' ?_ _ | (refine Below.setCell ?_ (by first | omega | (simp; done) | (simp; omega) | exact Below.size (by assumption) | exact Nat.le_trans (Below.size (by assumption)) (by simp)) _) | (refine Below.via' ?_ (by assumption)) | (refine Below.alloc ?_ (by first | omega | (simp; done) | (simp; omega) | exact Below.size (by assumption) | exact Nat.le_trans (Below.size (by assumption)) (by simp)) _) | (refine Below.via ?_ (by assumption) (by first | omega | (simp; done) | (simp; omega) | exact Below.size (by assumption) | exact Nat.le_trans (Below.size (by assumption)) (by simp)))))))).mono ?_
        rintro e w2 ⟨rfl, hb2⟩
        rw [hr]
        go_wp2
        go_roundw
        case rel =>
          refine ⟨i + 1, by omega, by go_num, fun j hj => ?_, (by repeat (first | exact Below.refl _ _ | assumption | refine Below.drew ?_ | refine below_drewN ?_ _ | refine Below.alloc' ?_ _ | (refine Below.setCell ?_ (by first | omega | (simp; done) | (simp; omega) | exact Below.size (by assumption) | exact Nat.le_trans (Below.size (by assumption)) (by simp)) _) | (refine Below.via' ?_ (by assumption)) | (refine Below.alloc ?_ (by first | omega | (simp; done) | (simp; omega) | exact Below.size (by assumption) | exact Nat.le_trans (Below.size (by assumption)) (by simp)) _) | (refine Below.via ?_ (by assumption) (by first | omega | (simp; done) | (simp; omega) | exact Below.size (by assumption) | exact Nat.le_trans (Below.size (by assumption)) (by simp)))))⟩
          rcases Nat.lt_or_ge j i with hj2 | hj2
          · exact hall.out j hj2
          · obtain rfl : j = i := by omega
            exact ⟨_, pM_at hQi.out, hr⟩
        case measure => simp [intOf]; omega
    · have hij : i = Q.length := by omega
      subst hij
      have hv := Lib.hid (dokB_all (S := S) (Q := pM Q) (by rw [pM_len]; exact hall.out))
      have hd : decide ((pM Q).length ≤ 40) = true := by rw [pM_len]; exact decide_eq_true (by omega)
      rw [hd] at hv
      clear hall hd
      go_wp2
      go_ret
      exact ⟨ret_bool hv.out.symm, hb⟩

set_option maxHeartbeats 2000000 in
theorem dGood_any (x y : Option Addr) (c1 c2 : Nat) (S : List (ByteArray × Int)) (Q : List PR) (w : World) (hs : schB S = true) (hm : S.length ≤ 1048576) (hS : Rd w x (vC S)) (hQ : DIn w y Q) :
    Calls Try.prog 139 #[.slice x S.length c1, .slice y Q.length c2] w fun e w' => e = .returned (.bool (dokB S (pM Q))) ∧ Below w.heap.size w w' := by
  have hSh := Lib.hid hS
  have hQl := hQ.1
  have hQh := Lib.hid hQ
  clear hS hQ
  go_enter Try.func139, Try.ntmps139
  go_wp2
  go_loopw [9] (fun c wr => ∃ i : Nat, i ≤ Q.length ∧ c = .int .i64 i ∧ Hid (∀ j, j < i → ∃ q, (pM Q)[j]? = some q ∧ rokB S q = true) ∧ Below w.heap.size w wr) (fun c _ => Q.length - (intOf c).toNat)
  case atStart => exact ⟨0, by omega, rfl, (fun j hj => absurd hj (by omega)), (by repeat (first | exact Below.refl _ _ | assumption | refine Below.drew ?_ | refine below_drewN ?_ _ | refine Below.alloc' ?_ _ | (refine Below.setCell ?_ (by first | omega | (simp; done) | (simp; omega) | exact Below.size (by assumption) | exact Nat.le_trans (Below.size (by assumption)) (by simp)) _) | (refine Below.via' ?_ (by assumption)) | (refine Below.alloc ?_ (by first | omega | (simp; done) | (simp; omega) | exact Below.size (by assumption) | exact Nat.le_trans (Below.size (by assumption)) (by simp)) _) | (refine Below.via ?_ (by assumption) (by first | omega | (simp; done) | (simp; omega) | exact Below.size (by assumption) | exact Nat.le_trans (Below.size (by assumption)) (by simp)))))⟩
  case round =>
    obtain ⟨i, hi, rfl, hall, hb⟩ := hrel
    by_cases hlt : i < Q.length
    · obtain ⟨bl, off, q, rfl, hbl, hQi, hc0, hc1, hc2⟩ := (hQh.out.2.2.below hb).rec hlt
      have hq := Lib.hid ((hQh.out.2.1 q (List.mem_of_getElem? hQi)).2.2.below hb)
      have hlt' : (i : Int) < (Q.length : Int) := by omega
      have hi0 : (0 : Int) ≤ (i : Int) := by omega
      cases hr : rokB S (q.a, q.h, q.L)
      · have hv := Lib.hid (dokB_bad (S := S) (pM_at hQi) hr)
        clear hQi
        go_wp2_with fail
        refine (rGood_any _ _ _ _ S q.a q.h q.L _ hs hm (hSh.out.below (by exact (by repeat (first | exact Below.refl _ _ | assumption | refine Below.drew ?_ | refine below_drewN ?_ _ | refine Below.alloc' ?_ _ | (refine Below.setCell ?_ (by first | omega | (simp; done) | (simp; omega) | exact Below.size (by assumption) | exact Nat.le_trans (Below.size (by assumption)) (by simp)) _) | (refine Below.via' ?_ (by assumption)) | (refine Below.alloc ?_ (by first | omega | (simp; done) | (simp; omega) | exact Below.size (by assumption) | exact Nat.le_trans (Below.size (by assumption)) (by simp)) _) | (refine Below.via ?_ (by assumption) (by first | omega | (simp; done) | (simp; omega) | exact Below.size (by assumption) | exact Nat.le_trans (Below.size (by assumption)) (by simp))))))) (hq.out.below (by exact (by repeat (first | exact Below.refl _ _ | assumption | refine Below.drew ?_ | refine below_drewN ?_ _ | refine Below.alloc' ?_ _ | (refine Below.setCell ?_ (by first | omega | (simp; done) | (simp; omega) | exact Below.size (by assumption) | exact Nat.le_trans (Below.size (by assumption)) (by simp)) _) | (refine Below.via' ?_ (by assumption)) | (refine Below.alloc ?_ (by first | omega | (simp; done) | (simp; omega) | exact Below.size (by assumption) | exact Nat.le_trans (Below.size (by assumption)) (by simp)) _) | (refine Below.via ?_ (by assumption) (by first | omega | (simp; done) | (simp; omega) | exact Below.size (by assumption) | exact Nat.le_trans (Below.size (by assumption)) (by simp)))))))).mono ?_
        rintro e w2 ⟨rfl, hb2⟩
        rw [hr]
        go_wp2
        go_ret
        exact ⟨ret_bool hv.out.symm, (by repeat (first | exact Below.refl _ _ | assumption | refine Below.drew ?_ | refine below_drewN ?_ _ | refine Below.alloc' ?_ _ | (refine Below.setCell ?_ (by first | omega | (simp; done) | (simp; omega) | exact Below.size (by assumption) | exact Nat.le_trans (Below.size (by assumption)) (by simp)) _) | (refine Below.via' ?_ (by assumption)) | (refine Below.alloc ?_ (by first | omega | (simp; done) | (simp; omega) | exact Below.size (by assumption) | exact Nat.le_trans (Below.size (by assumption)) (by simp)) _) | (refine Below.via ?_ (by assumption) (by first | omega | (simp; done) | (simp; omega) | exact Below.size (by assumption) | exact Nat.le_trans (Below.size (by assumption)) (by simp)))))⟩
      · replace hQi := Lib.hid hQi
        go_wp2_with fail
        refine (rGood_any _ _ _ _ S q.a q.h q.L _ hs hm (hSh.out.below (by exact (by repeat (first | exact Below.refl _ _ | assumption | refine Below.drew ?_ | refine below_drewN ?_ _ | refine Below.alloc' ?_ _ | (refine Below.setCell ?_ (by first | omega | (simp; done) | (simp; omega) | exact Below.size (by assumption) | exact Nat.le_trans (Below.size (by assumption)) (by simp)) _) | (refine Below.via' ?_ (by assumption)) | (refine Below.alloc ?_ (by first | omega | (simp; done) | (simp; omega) | exact Below.size (by assumption) | exact Nat.le_trans (Below.size (by assumption)) (by simp)) _) | (refine Below.via ?_ (by assumption) (by first | omega | (simp; done) | (simp; omega) | exact Below.size (by assumption) | exact Nat.le_trans (Below.size (by assumption)) (by simp))))))) (hq.out.below (by exact (by repeat (first | exact Below.refl _ _ | assumption | refine Below.drew ?_ | refine below_drewN ?_ _ | refine Below.alloc' ?_ _ | (refine Below.setCell ?_ (by first | omega | (simp; done) | (simp; omega) | exact Below.size (by assumption) | exact Nat.le_trans (Below.size (by assumption)) (by simp)) _) | (refine Below.via' ?_ (by assumption)) | (refine Below.alloc ?_ (by first | omega | (simp; done) | (simp; omega) | exact Below.size (by assumption) | exact Nat.le_trans (Below.size (by assumption)) (by simp)) _) | (refine Below.via ?_ (by assumption) (by first | omega | (simp; done) | (simp; omega) | exact Below.size (by assumption) | exact Nat.le_trans (Below.size (by assumption)) (by simp)))))))).mono ?_
        rintro e w2 ⟨rfl, hb2⟩
        rw [hr]
        go_wp2
        go_roundw
        case rel =>
          refine ⟨i + 1, by omega, by go_num, fun j hj => ?_, (by repeat (first | exact Below.refl _ _ | assumption | refine Below.drew ?_ | refine below_drewN ?_ _ | refine Below.alloc' ?_ _ | (refine Below.setCell ?_ (by first | omega | (simp; done) | (simp; omega) | exact Below.size (by assumption) | exact Nat.le_trans (Below.size (by assumption)) (by simp)) _) | (refine Below.via' ?_ (by assumption)) | (refine Below.alloc ?_ (by first | omega | (simp; done) | (simp; omega) | exact Below.size (by assumption) | exact Nat.le_trans (Below.size (by assumption)) (by simp)) _) | (refine Below.via ?_ (by assumption) (by first | omega | (simp; done) | (simp; omega) | exact Below.size (by assumption) | exact Nat.le_trans (Below.size (by assumption)) (by simp)))))⟩
          rcases Nat.lt_or_ge j i with hj2 | hj2
          · exact hall.out j hj2
          · obtain rfl : j = i := by omega
            exact ⟨_, pM_at hQi.out, hr⟩
        case measure => simp [intOf]; omega
    · have hij : i = Q.length := by omega
      subst hij
      have hv := Lib.hid (dokB_all (S := S) (Q := pM Q) (by rw [pM_len]; exact hall.out))
      rw [pM_len] at hv
      clear hall
      by_cases hd : Q.length ≤ 40
      · rw [decide_eq_true hd] at hv
        go_wp2
        go_ret
        exact ⟨ret_bool ((decide_eq_true (by omega)).trans hv.out.symm), hb⟩
      · rw [decide_eq_false hd] at hv
        go_wp2
        go_ret
        exact ⟨ret_bool ((decide_eq_false (by omega)).trans hv.out.symm), hb⟩

theorem ret_bb {a b p q : Bool} (h : a = b) (k : p = q) : Ending.returned (.tuple #[.bool a, .bool p]) = .returned (.tuple #[.bool b, .bool q]) := by rw [h, k]
theorem dInput_any (x y : Option Addr) (c1 c2 : Nat) (S : List (ByteArray × Int)) (Q : List PR) (w : World) (h : SIn w x c1 S) (hQ : DIn w y Q) :
    Calls Try.prog 115 #[.slice x S.length c1, .slice y Q.length c2] w fun e w' => e = .returned (.bool (idB S (pM Q))) ∧ Below w.heap.size w w' := by
  have hm := h.1
  have hh := Lib.hid h
  have hQh := Lib.hid hQ
  clear h hQ
  cases hs : schB S
  · go_enter Try.func115, Try.ntmps115
    go_wp2_with fail
    refine (sGood_x _ _ _ _ (hh.out.below (by exact (by repeat (first | exact Below.refl _ _ | assumption | refine Below.drew ?_ | refine below_drewN ?_ _ | refine Below.alloc' ?_ _ | (refine Below.setCell ?_ (by first | omega | (simp; done) | (simp; omega) | exact Below.size (by assumption) | exact Nat.le_trans (Below.size (by assumption)) (by simp)) _) | (refine Below.via' ?_ (by assumption)) | (refine Below.alloc ?_ (by first | omega | (simp; done) | (simp; omega) | exact Below.size (by assumption) | exact Nat.le_trans (Below.size (by assumption)) (by simp)) _) | (refine Below.via ?_ (by assumption) (by first | omega | (simp; done) | (simp; omega) | exact Below.size (by assumption) | exact Nat.le_trans (Below.size (by assumption)) (by simp)))))))).mono ?_
    rintro e w1 ⟨rfl, hb1⟩
    rw [hs]
    go_wp2
    go_ret
    exact ⟨ret_bool (by unfold idB; rw [hs]; rfl), (by repeat (first | exact Below.refl _ _ | assumption | refine Below.drew ?_ | refine below_drewN ?_ _ | refine Below.alloc' ?_ _ | (refine Below.setCell ?_ (by first | omega | (simp; done) | (simp; omega) | exact Below.size (by assumption) | exact Nat.le_trans (Below.size (by assumption)) (by simp)) _) | (refine Below.via' ?_ (by assumption)) | (refine Below.alloc ?_ (by first | omega | (simp; done) | (simp; omega) | exact Below.size (by assumption) | exact Nat.le_trans (Below.size (by assumption)) (by simp)) _) | (refine Below.via ?_ (by assumption) (by first | omega | (simp; done) | (simp; omega) | exact Below.size (by assumption) | exact Nat.le_trans (Below.size (by assumption)) (by simp)))))⟩
  · go_enter Try.func115, Try.ntmps115
    go_wp2_with fail
    refine (sGood_x _ _ _ _ (hh.out.below (by exact (by repeat (first | exact Below.refl _ _ | assumption | refine Below.drew ?_ | refine below_drewN ?_ _ | refine Below.alloc' ?_ _ | (refine Below.setCell ?_ (by first | omega | (simp; done) | (simp; omega) | exact Below.size (by assumption) | exact Nat.le_trans (Below.size (by assumption)) (by simp)) _) | (refine Below.via' ?_ (by assumption)) | (refine Below.alloc ?_ (by first | omega | (simp; done) | (simp; omega) | exact Below.size (by assumption) | exact Nat.le_trans (Below.size (by assumption)) (by simp)) _) | (refine Below.via ?_ (by assumption) (by first | omega | (simp; done) | (simp; omega) | exact Below.size (by assumption) | exact Nat.le_trans (Below.size (by assumption)) (by simp)))))))).mono ?_
    rintro e w1 ⟨rfl, hb1⟩
    rw [hs]
    go_wp2_with fail
    refine (dGood_any _ _ _ _ S Q _ hs hm (hh.out.rd.below (by exact (by repeat (first | exact Below.refl _ _ | assumption | refine Below.drew ?_ | refine below_drewN ?_ _ | refine Below.alloc' ?_ _ | (refine Below.setCell ?_ (by first | omega | (simp; done) | (simp; omega) | exact Below.size (by assumption) | exact Nat.le_trans (Below.size (by assumption)) (by simp)) _) | (refine Below.via' ?_ (by assumption)) | (refine Below.alloc ?_ (by first | omega | (simp; done) | (simp; omega) | exact Below.size (by assumption) | exact Nat.le_trans (Below.size (by assumption)) (by simp)) _) | (refine Below.via ?_ (by assumption) (by first | omega | (simp; done) | (simp; omega) | exact Below.size (by assumption) | exact Nat.le_trans (Below.size (by assumption)) (by simp))))))) (hQh.out.below (by exact (by repeat (first | exact Below.refl _ _ | assumption | refine Below.drew ?_ | refine below_drewN ?_ _ | refine Below.alloc' ?_ _ | (refine Below.setCell ?_ (by first | omega | (simp; done) | (simp; omega) | exact Below.size (by assumption) | exact Nat.le_trans (Below.size (by assumption)) (by simp)) _) | (refine Below.via' ?_ (by assumption)) | (refine Below.alloc ?_ (by first | omega | (simp; done) | (simp; omega) | exact Below.size (by assumption) | exact Nat.le_trans (Below.size (by assumption)) (by simp)) _) | (refine Below.via ?_ (by assumption) (by first | omega | (simp; done) | (simp; omega) | exact Below.size (by assumption) | exact Nat.le_trans (Below.size (by assumption)) (by simp)))))))).mono ?_
    rintro e w2 ⟨rfl, hb2⟩
    go_wp2
    go_ret
    exact ⟨ret_bool (by unfold idB; rw [hs]; rfl), (by repeat (first | exact Below.refl _ _ | assumption | refine Below.drew ?_ | refine below_drewN ?_ _ | refine Below.alloc' ?_ _ | (refine Below.setCell ?_ (by first | omega | (simp; done) | (simp; omega) | exact Below.size (by assumption) | exact Nat.le_trans (Below.size (by assumption)) (by simp)) _) | (refine Below.via' ?_ (by assumption)) | (refine Below.alloc ?_ (by first | omega | (simp; done) | (simp; omega) | exact Below.size (by assumption) | exact Nat.le_trans (Below.size (by assumption)) (by simp)) _) | (refine Below.via ?_ (by assumption) (by first | omega | (simp; done) | (simp; omega) | exact Below.size (by assumption) | exact Nat.le_trans (Below.size (by assumption)) (by simp)))))⟩
end Go.Proofs.Ytgkaalonmkcclaa

namespace Go.Proofs.Ytgkaalonmkcclaa
open Go.ChangeShapes Go.WideShapes Go.ChangeAt Go.RowKit
open Go.Joins
set_option maxRecDepth 100000

instance : Inhabited PR := ⟨⟨0, 0, none, 0, []⟩⟩
theorem cellsR : Try.prog.cellsOf 68 = 3 := by kernel_rfl
/-- A record that comes in. -/
theorem open_rec {H : Type} {enc : TypeId × Value → H} {W : World} {base : Nat} {v : Value} {d : DataW H} {p : List MemPlace} (hv : Value.okWide Try.prog W .any base 68 v)
    (h : DataW.Trod enc Try.prog W 0 (fun _ => true) true 68 v d p) : ∃ a h x cap L, v = .agg #[.int .i64 a, .int .i64 h, .slice x L.length cap] ∧ L.length ≤ 9223372036854775807 ∧ IsI64 a ∧ IsI64 h ∧ Hid (∀ n ∈ L, IsI64 n) ∧ Hid (Rd W x (iC L)) := by
  obtain ⟨c0, c1, c2, y0, y1, y2, m, rfl, rfl, rfl, hy0, hy1, hy2⟩ := open_agg3 Try.underlying68 (by kernel_rfl) cellsR hv h
  obtain ⟨a, e0, rfl, wa⟩ := DataW.trod_int Try.underlying3 hy0
  obtain ⟨b, e1, rfl, wb⟩ := DataW.trod_int Try.underlying3 hy1
  obtain ⟨x, cap, L, hcs, hl, hn, hr⟩ := open_intC hy2
  simp at e0 e1 hcs
  subst e0 e1 hcs
  exact ⟨a, b, x, cap, L, rfl, hl, isI64_of_wf wa, isI64_of_wf wb, hn, hr⟩

/-- A record out of its three cells. -/
theorem open_recC {H : Type} {enc : TypeId × Value → H} {W : World} {fuel : Nat} {cs : List Value} {z : DataW H × List MemPlace} (hl : cs.length = 3)
    (hf : DataW.trod enc Try.prog W 0 (fun _ => true) true fuel 68 cs = some z) : ∃ q : PR, cs = q.cs ∧ ROk0 W q := by
  obtain ⟨y0, y1, y2, n, rfl, hlen, h0, h1, h2⟩ := Deep.trod_struct3 Try.underlying68 hf
  match cs, hl with
  | [v0, v1, v2], _ =>
    simp only [show Try.prog.cellsOf 3 = 1 from cInt, show Try.prog.cellsOf 22 = 1 from by kernel_rfl, List.drop_zero, List.drop_succ_cons, List.take_succ_cons, List.take_zero] at h0 h1 h2
    obtain ⟨a, e0, _, wa⟩ := DataW.trod_int Try.underlying3 h0
    obtain ⟨b, e1, _, wb⟩ := DataW.trod_int Try.underlying3 h1
    obtain ⟨x, cap, L, hcs, hl, hn, hr⟩ := open_intC h2
    simp at e0 e1 hcs
    subst e0 e1 hcs
    exact ⟨⟨a, b, x, cap, L⟩, rfl, hl, isI64_of_wf wa, isI64_of_wf wb, hn.out, hr.out⟩

/-- A list of records that comes in. -/
theorem open_recs {H : Type} {enc : TypeId × Value → H} {W : World} {base : Nat} {v : Value} {d : DataW H} {p : List MemPlace} (hv : Value.okWide Try.prog W .any base 56 v)
    (h : DataW.Trod enc Try.prog W 0 (fun _ => true) true 56 v d p) : ∃ x cap Q, v = .slice x Q.length cap ∧ Hid (DIn0 W x Q) ∧ Q.length ≤ 9223372036854775807 := by
  obtain ⟨a0, len, cap, rfl⟩ := okWide_slice Try.underlying56 hv
  obtain ⟨fuel, hf⟩ := h
  rcases Deep.open_slice Try.underlying56 hf with ⟨hcs, _⟩ | ⟨a, len', cap', m, n, D, P0, hcs, _, hl, hm, hmm, _, hi⟩
  · simp [Value.cells] at hcs
    obtain ⟨rfl, rfl, rfl⟩ := hcs
    exact ⟨none, 0, [], rfl, (show DIn0 W none [] from ⟨by simp, fun q hq => (by cases hq), Or.inl rfl⟩), by simp⟩
  · simp [Value.cells] at hcs
    obtain ⟨rfl, rfl, rfl⟩ := hcs
    simp only [if_true] at hmm
    subst hmm
    have each : ∀ i, i < m → ∃ q : PR, W.cell? (a.add (i * 3)) = some (.int .i64 q.a) ∧ W.cell? (a.add (i * 3 + 1)) = some (.int .i64 q.h) ∧ W.cell? (a.add (i * 3 + 2)) = some q.v ∧ ROk0 W q := by
      intro i him
      obtain ⟨cs, h1, h2⟩ := hi i him
      rw [cellsR] at h1
      obtain ⟨_, hlen, hcell⟩ := World.cells?_some h1
      obtain ⟨q, rfl, hq⟩ := open_recC hlen h2
      have e0 := hcell 0 (by omega)
      have e1 := hcell 1 (by omega)
      have e2 := hcell 2 (by omega)
      rw [Deep.add_add] at e0 e1 e2
      exact ⟨q, by simpa [PR.cs] using e0, by simpa [PR.cs] using e1, by simpa [PR.cs] using e2, hq⟩
    obtain ⟨q, hq⟩ := Deep.choose_lt each
    have hlen : ((List.range len).map q).length = len := by simp
    refine ⟨some a, m, (List.range len).map q, by rw [hlen], (show DIn0 W (some a) _ from ⟨by rw [hlen]; unfold maxLen at hm; omega, fun r hr => ?_, ?_⟩), by rw [hlen]; unfold maxLen at hm; omega⟩
    · obtain ⟨i, hi1, rfl⟩ := List.mem_map.1 hr
      exact (hq i (by have := List.mem_range.1 hi1; omega)).2.2.2
    by_cases h0 : len = 0
    · subst h0
      exact Or.inl (by simp [pC])
    obtain ⟨b, off, spot⟩ := a
    have hc0 := (hq 0 (by omega)).1
    have hspot : spot = none := by simpa [Addr.add] using World.cell?_spot hc0
    subst hspot
    have hblk : b < W.heap.size := World.block_lt_of_cell? W _ (by simpa [Addr.add] using hc0)
    refine Or.inr ⟨b, off, rfl, hblk, fun j u hj => ?_⟩
    have hjl : j < len * 3 := by
      have := (List.getElem?_eq_some_iff.1 hj).1
      rw [pC_len, hlen] at this
      exact this
    have hat : ∀ i, i < len → ((List.range len).map q)[i]? = some (q i) := by
      intro i hil
      rw [List.getElem?_map, List.getElem?_range hil]
      rfl
    obtain ⟨k0, k1, k2, _⟩ := hq (j / 3) (by omega)
    rw [addr_add] at k0 k1 k2
    rcases (by omega : j = (j / 3) * 3 ∨ j = (j / 3) * 3 + 1 ∨ j = (j / 3) * 3 + 2) with e | e | e
    · have := pC_at0 (hat (j / 3) (by omega))
      rw [← e, hj] at this
      cases this
      rw [← e] at k0
      exact k0
    · have := pC_at1 (hat (j / 3) (by omega))
      rw [← e, hj] at this
      cases this
      rw [← e] at k1
      exact k1
    · have := pC_at2 (hat (j / 3) (by omega))
      rw [← e, hj] at this
      cases this
      rw [← e] at k2
      exact k2

/-- The record that the law has copied can be read as one. -/
theorem IIn.of_owR {w : World} {lo hi : Nat} {ti : TypeId} {x : Option Addr} {c : Nat} {L : List Int} (h : OwR w lo hi ti 1 (.slice x L.length c) L.length (iC L)) (hl : L.length ≤ 1048576) (hn : ∀ n ∈ L, IsI64 n) : IIn w x L := ⟨hl, hn, h.rd⟩
/-- The records that the law has copied can be read as data: their numbers are those that came in. -/
theorem DIn.of_owD {w W : World} {lo hi : Nat} {tr ti : TypeId} {x y : Option Addr} {c : Nat} {T Q : List PR} (h : OwD w lo hi tr ti (.slice x T.length c) T) (hT : pM T = pM Q) (hQ : DIn0 W y Q) (hl : Q.length ≤ 1048576) (ht : tot Q ≤ 1048576) : DIn w x T := by
  refine ⟨by rw [pM_length hT]; exact hl, fun t hm => ?_, h.1.rd⟩
  obtain ⟨i, hi, e⟩ := List.getElem_of_mem hm
  have hTi : T[i]? = some t := by rw [List.getElem?_eq_getElem hi, e]
  have hQl : i < Q.length := by rw [← pM_length hT]; exact hi
  have hQi : Q[i]? = some Q[i] := List.getElem?_eq_getElem hQl
  obtain ⟨e1, e2, e3⟩ := pM_get hT hQi hTi
  obtain ⟨_, g1, g2, g3, _⟩ := hQ.2.1 Q[i] (List.getElem_mem hQl)
  have := tot_mem (List.getElem_mem hQl)
  refine ⟨by rw [e1]; exact g1, by rw [e2]; exact g2, by rw [e3]; omega, by rw [e3]; exact g3, (h.2.1.1 t hm).rd⟩
theorem DIn.inn {w : World} {x : Option Addr} {Q : List PR} (h : DIn w x Q) : ∀ q ∈ Q, Rd w q.x (iC q.L) := fun q hq => (h.2.1 q hq).2.2.2.2
theorem DIn.len {w : World} {x : Option Addr} {Q : List PR} (h : DIn w x Q) : Q.length ≤ 9223372036854775807 ∧ ∀ q ∈ Q, q.L.length ≤ 9223372036854775807 := ⟨by have := h.1; omega, fun q hq => by have := (h.2.1 q hq).2.2.1; omega⟩
end Go.Proofs.Ytgkaalonmkcclaa
