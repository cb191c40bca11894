import Derived.Test.YtmcibcechffppaaRec
import Derived.Test.YtmcibcechffppaaRecL
import Derived.Test.YtmcibcechffppaaEdX
import Derived.Test.YtmcibcechffppaaSchM
import Derived.Test.YtmcibcechffppaaSchV
import Derived.Test.YtmcibcechffppaaApp
namespace Go.Proofs.Ytmcibcechffppaa

/-- Lists in lexicographic order: -1, 0 or 1. -/
def lxZ : List Int → List Int → Int
  | [], [] => 0
  | [], _ :: _ => -1
  | _ :: _, [] => 1
  | a :: x, b :: y => if a < b then -1 else if b < a then 1 else lxZ x y
/-- Two numbers. -/
def cmZ (a b : Int) : Int := if a < b then -1 else if b < a then 1 else 0
def RV.key (p : RV) : List Int := p.1 :: p.2.1 :: p.2.2
/-- Two records. -/
def rcZ (p q : RV) : Int := lxZ (RV.key p) (RV.key q)
theorem lxZ_nilnil : lxZ [] [] = 0 := by unfold lxZ; rfl
theorem lxZ_nilcons (b : Int) (y : List Int) : lxZ [] (b :: y) = -1 := by unfold lxZ; rfl
theorem lxZ_consnil (a : Int) (x : List Int) : lxZ (a :: x) [] = 1 := by unfold lxZ; rfl
theorem lxZ_cons (a b : Int) (x y : List Int) : lxZ (a :: x) (b :: y) = if a < b then -1 else if b < a then 1 else lxZ x y := by rw [lxZ]
theorem lxZ_self : ∀ x : List Int, lxZ x x = 0
  | [] => lxZ_nilnil
  | a :: x => by rw [lxZ_cons, if_neg (by omega), if_neg (by omega), lxZ_self x]
theorem lxZ_neg : ∀ x y : List Int, lxZ y x = - lxZ x y
  | [], [] => by rw [lxZ_nilnil]; rfl
  | [], b :: y => by rw [lxZ_nilcons, lxZ_consnil]; rfl
  | a :: x, [] => by rw [lxZ_nilcons, lxZ_consnil]
  | a :: x, b :: y => by
    rw [lxZ_cons, lxZ_cons]
    by_cases h1 : a < b
    · rw [if_neg (by omega), if_pos h1, if_pos h1]; rfl
    · by_cases h2 : b < a
      · rw [if_pos h2, if_neg h1, if_pos h2]
      · rw [if_neg h2, if_neg h1, if_neg h1, if_neg h2, lxZ_neg x y]
theorem lxZ_bd : ∀ x y : List Int, lxZ x y = -1 ∨ lxZ x y = 0 ∨ lxZ x y = 1
  | [], [] => by rw [lxZ_nilnil]; simp
  | [], b :: y => by rw [lxZ_nilcons]; simp
  | a :: x, [] => by rw [lxZ_consnil]; simp
  | a :: x, b :: y => by
    rw [lxZ_cons]
    split
    · simp
    · split
      · simp
      · exact lxZ_bd x y
theorem lxZ_zero : ∀ {x y : List Int}, lxZ x y = 0 → x = y
  | [], [], _ => rfl
  | [], b :: y, h => by rw [lxZ_nilcons] at h; cases h
  | a :: x, [], h => by rw [lxZ_consnil] at h; cases h
  | a :: x, b :: y, h => by
    rw [lxZ_cons] at h
    split at h
    · cases h
    · split at h
      · cases h
      · rw [lxZ_zero h, show a = b by omega]
theorem lxZ_trans : ∀ {x y z : List Int}, lxZ x y ≤ 0 → lxZ y z ≤ 0 → lxZ x z ≤ 0
  | [], _, [], _, _ => by rw [lxZ_nilnil]; omega
  | [], _, _ :: _, _, _ => by rw [lxZ_nilcons]; omega
  | a :: x, [], _, h, _ => by rw [lxZ_consnil] at h; omega
  | a :: x, b :: y, [], _, h => by rw [lxZ_consnil] at h; omega
  | a :: x, b :: y, c :: z, h1, h2 => by
    rw [lxZ_cons] at h1 h2 ⊢
    split at h1
    · split at h2
      · rw [if_pos (by omega)]; omega
      · split at h2
        · omega
        · rw [if_pos (by omega)]; omega
    · split at h1
      · omega
      · split at h2
        · rw [if_pos (by omega)]; omega
        · split at h2
          · omega
          · rw [if_neg (by omega), if_neg (by omega)]
            exact lxZ_trans h1 h2
theorem key_inj {p q : RV} (h : RV.key p = RV.key q) : p = q := by
  unfold RV.key at h
  injection h with h1 h2
  injection h2 with h2 h3
  exact Prod.ext h1 (Prod.ext h2 h3)
theorem rcZ_self (p : RV) : rcZ p p = 0 := lxZ_self _
theorem rcZ_neg (p q : RV) : rcZ q p = - rcZ p q := lxZ_neg _ _
theorem rcZ_zero {p q : RV} (h : rcZ p q = 0) : p = q := key_inj (lxZ_zero h)
theorem rcZ_trans {p q r : RV} (h : rcZ p q ≤ 0) (k : rcZ q r ≤ 0) : rcZ p r ≤ 0 := lxZ_trans h k
theorem rcZ_bd (p q : RV) : rcZ p q = -1 ∨ rcZ p q = 0 ∨ rcZ p q = 1 := lxZ_bd _ _
theorem rcZ_of (p q : RV) : rcZ p q = if p.1 < q.1 then -1 else if q.1 < p.1 then 1 else if p.2.1 < q.2.1 then -1 else if q.2.1 < p.2.1 then 1 else lxZ p.2.2 q.2.2 := by
  unfold rcZ RV.key
  rw [lxZ_cons, lxZ_cons]

/-- Not after. -/
def leR (p q : RV) : Bool := decide (rcZ p q ≤ 0)
theorem leR_iff (p q : RV) : leR p q = true ↔ rcZ p q ≤ 0 := by unfold leR; simp
theorem leR_tr (a b c : RV) : leR a b = true → leR b c = true → leR a c = true := by rw [leR_iff, leR_iff, leR_iff]; exact rcZ_trans
theorem leR_to (a b : RV) : (leR a b || leR b a) = true := by
  rw [Bool.or_eq_true, leR_iff, leR_iff]
  have := rcZ_neg a b
  omega
theorem leR_anti {a b : RV} (h : leR a b = true) (k : leR b a = true) : a = b := by
  rw [leR_iff] at h k
  have := rcZ_neg a b
  exact rcZ_zero (by omega)
/-- The records in order. -/
def srt (L : List RV) : List RV := L.mergeSort leR
def isS (L : List RV) : Prop := L.Pairwise fun a b => leR a b = true
theorem srt_perm (L : List RV) : (srt L).Perm L := List.mergeSort_perm L leR
theorem srt_pw (L : List RV) : isS (srt L) := List.pairwise_mergeSort leR_tr leR_to L
theorem srt_len (L : List RV) : (srt L).length = L.length := (srt_perm L).length_eq
/-- There is but one list in order with the same records. -/
theorem srt_uniq {L M : List RV} (hp : M.Perm L) (hs : isS M) : M = srt L :=
  List.Perm.eq_of_pairwise (le := fun a b => leR a b = true) (fun _ _ _ _ h1 h2 => leR_anti h1 h2) hs (srt_pw L) (hp.trans (srt_perm L).symm)
/-- A record is put behind all that are not after it. -/
theorem isS_put {L : List RV} {r : RV} {k : Nat} (hs : isS L) (h1 : ∀ p ∈ L.drop k, leR r p = true) (h2 : k = 0 ∨ ∃ p, L[k - 1]? = some p ∧ leR p r = true) : isS (L.take k ++ r :: L.drop k) := by
  unfold isS at hs ⊢
  rw [← List.take_append_drop k L, List.pairwise_append] at hs
  obtain ⟨s1, s2, s3⟩ := hs
  refine List.pairwise_append.2 ⟨s1, List.pairwise_cons.2 ⟨h1, s2⟩, fun a ha b hb => ?_⟩
  have har : leR a r = true := by
    rcases h2 with h2 | ⟨p, hp, hpr⟩
    · subst h2; simp at ha
    · obtain ⟨j, hj, e⟩ := List.mem_take_iff_getElem.1 ha
      by_cases hjk : j = k - 1
      · subst hjk
        rw [List.getElem?_eq_getElem (by omega)] at hp
        injection hp with hp
        rw [← e, hp]
        exact hpr
      · have hkl : k - 1 < L.length := (List.getElem?_eq_some_iff.1 hp).1
        have : leR L[j] L[k - 1] = true := by
          have hpw := s1
          rw [List.pairwise_iff_getElem] at hpw
          have := hpw j (k - 1) (by rw [List.length_take]; omega) (by rw [List.length_take]; omega) (by omega)
          simpa using this
        rw [List.getElem?_eq_getElem hkl] at hp
        injection hp with hp
        rw [← e]
        exact leR_tr _ _ _ this (by rw [hp]; exact hpr)
  rcases List.mem_cons.1 hb with rfl | hb
  · exact har
  · exact s3 a ha b hb
theorem put_perm {α : Type} (L : List α) (r : α) (k : Nat) : (L.take k ++ r :: L.drop k).Perm (L ++ [r]) := by
  have : (L.take k ++ r :: L.drop k).Perm (r :: (L.take k ++ L.drop k)) := List.perm_middle
  rw [List.take_append_drop] at this
  exact this.trans (List.perm_append_singleton r L).symm
/-- Two lists are the same if and only if their sorted lists are equal, record by record. -/
def sameB (A B : List RV) : Bool := decide (srt A = srt B)

/-- Is it a record, are they data, for a valid schema? -/
def rokB (S : List (ByteArray × Int)) (q : RV) : Bool := inB q.1 0 29 && inB q.2.1 0 999 && fitB S q.2.2
def dokB (S : List (ByteArray × Int)) (Q : List RV) : Bool := decide (Q.length ≤ 40) && Q.all (rokB S)
theorem dokB_len {S : List (ByteArray × Int)} {Q : List RV} (h : dokB S Q = true) : Q.length ≤ 40 := by
  unfold dokB at h
  simp only [Bool.and_eq_true, decide_eq_true_eq] at h
  exact h.1
theorem dokB_mem {S : List (ByteArray × Int)} {Q : List RV} (h : dokB S Q = true) {q : RV} (hq : q ∈ Q) : rokB S q = true := by
  unfold dokB at h
  simp only [Bool.and_eq_true, decide_eq_true_eq, List.all_eq_true] at h
  exact h.2 q hq
theorem dokB_long {S : List (ByteArray × Int)} {Q : List RV} (h : 40 < Q.length) : dokB S Q = false := by unfold dokB; rw [decide_eq_false (by omega)]; rfl
theorem dokB_bad {S : List (ByteArray × Int)} {Q : List RV} {i : Nat} {q : RV} (h : Q[i]? = some q) (hq : rokB S q = false) : dokB S Q = false := by
  unfold dokB
  rw [Bool.and_eq_false_iff]
  right
  rw [List.all_eq_false]
  exact ⟨q, List.mem_of_getElem? h, by rw [hq]; simp⟩
theorem dokB_all {S : List (ByteArray × Int)} {Q : List RV} (h : ∀ j, j < Q.length → ∃ q, Q[j]? = some q ∧ rokB S q = true) : dokB S Q = decide (Q.length ≤ 40) := by
  unfold dokB
  have : Q.all (rokB S) = true := by
    rw [List.all_eq_true]
    intro q hq
    obtain ⟨j, hj, e⟩ := List.getElem_of_mem hq
    obtain ⟨p, hp, hr⟩ := h j hj
    rw [List.getElem?_eq_getElem hj, e] at hp
    injection hp with hp
    rw [hp]; exact hr
  rw [this, Bool.and_true]
theorem rokB_get {S : List (ByteArray × Int)} {q : RV} (h : rokB S q = true) : 0 ≤ q.1 ∧ q.1 ≤ 29 ∧ 0 ≤ q.2.1 ∧ q.2.1 ≤ 999 ∧ fitB S q.2.2 = true := by
  unfold rokB at h
  rw [Bool.and_eq_true, Bool.and_eq_true, inB_iff, inB_iff] at h
  exact ⟨h.1.1.1, h.1.1.2, h.1.2.1, h.1.2.2, h.2⟩
/-- A schema, a record; a schema, data. -/
def irB (S : List (ByteArray × Int)) (q : RV) : Bool := schB S && rokB S q
def idB (S : List (ByteArray × Int)) (Q : List RV) : Bool := schB S && dokB S Q
end Go.Proofs.Ytmcibcechffppaa

namespace Go.Proofs.Ytmcibcechffppaa
open Go.RowKit
set_option maxRecDepth 100000

/-- Block g holds a record. -/
def RB (w : World) (g : Nat) (a h : Int) (x : Option Addr) (n c : Nat) : Prop :=
  w.cell? ⟨g, 0, none⟩ = some (.int .i64 a) ∧ w.cell? ⟨g, 1, none⟩ = some (.int .i64 h) ∧ w.cell? ⟨g, 2, none⟩ = some (.slice x n c) ∧ g < w.heap.size
theorem RB.new (w : World) (a h : Int) (x : Option Addr) (n c : Nat) (t : TypeId) : RB (w.alloc (.cells #[.int .i64 a, .int .i64 h, .slice x n c] t)) w.heap.size a h x n c := by
  have k := Wb.new w t #[.int .i64 a, .int .i64 h, .slice x n c]
  exact ⟨(k.read 0).trans rfl, (k.read 1).trans rfl, (k.read 2).trans rfl, k.inside⟩
theorem RB.below {w w' : World} {g : Nat} {a h : Int} {x : Option Addr} {n c : Nat} (k : RB w g a h x n c) (hb : Below w.heap.size w w') : RB w' g a h x n c :=
  ⟨(hb.cell k.2.2.2).trans k.1, (hb.cell k.2.2.2).trans k.2.1, (hb.cell k.2.2.2).trans k.2.2.1, Nat.lt_of_lt_of_le k.2.2.2 hb.size⟩
theorem RB.off {w w' : World} {lo hi g : Nat} {a h : Int} {x : Option Addr} {n c : Nat} (k : RB w g a h x n c) (hg : Off lo hi w w') (hne : g < lo ∨ hi ≤ g) : RB w' g a h x n c := by
  have e := hg.block g k.2.2.2 hne
  exact ⟨(World.cell?_of_block (a := ⟨g, 0, none⟩) e).trans k.1, (World.cell?_of_block (a := ⟨g, 1, none⟩) e).trans k.2.1, (World.cell?_of_block (a := ⟨g, 2, none⟩) e).trans k.2.2.1, Nat.lt_of_lt_of_le k.2.2.2 hg.size⟩

theorem rok_no {S : List (ByteArray × Int)} {a h : Int} {L : List Int} (k : ¬ (0 ≤ a ∧ a ≤ 29) ∨ ¬ (0 ≤ h ∧ h ≤ 999)) : rokB S (a, h, L) = false := by
  unfold rokB
  rcases k with k | k
  · rw [(inB_no a 0 29).2 k]; rfl
  · rw [(inB_no h 0 999).2 k, Bool.and_false]; rfl
theorem rok_yes {S : List (ByteArray × Int)} {a h : Int} {L : List Int} (k : 0 ≤ a ∧ a ≤ 29) (k2 : 0 ≤ h ∧ h ≤ 999) : rokB S (a, h, L) = fitB S L := by
  unfold rokB
  rw [(inB_iff a 0 29).2 k, (inB_iff h 0 999).2 k2]; rfl

theorem ret_bb {a b p q : Bool} (h : a = b) (k : p = q) : Ending.returned (.tuple #[.bool a, .bool p]) = .returned (.tuple #[.bool b, .bool q]) := by rw [h, k]
end Go.Proofs.Ytmcibcechffppaa

namespace Go.Proofs.Ytmcibcechffppaa
open Go.RowKit
set_option maxRecDepth 100000

def zE (n : Nat) : List Int := List.replicate n 0
theorem zE_len (n : Nat) : (zE n).length = n := by unfold zE; simp
theorem made_zE (n : Nat) : (madeCells (Value.int .i64 0).cells (n * 1)).toList = iC (zE n) := by
  apply List.ext_getElem?
  intro j
  unfold iC zE
  rw [List.map_replicate, List.getElem?_replicate]
  by_cases h : j < n
  · simp [madeCells, Value.cells, h, Nat.mod_one]
  · simp [madeCells, Value.cells, h]
/-- How many of some values fail an edit. -/
def fcZ (E : List Int) (D : List (List Int)) : Int := ((D.filter fun V => fsB E V).length : Int)
theorem fcZ_nil (E : List Int) : fcZ E [] = 0 := rfl
theorem fcZ_yes {E V : List Int} {D : List (List Int)} (h : fsB E V = true) : fcZ E (D ++ [V]) = fcZ E D + 1 := by
  unfold fcZ
  rw [List.filter_append]
  simp [h]
theorem fcZ_no {E V : List Int} {D : List (List Int)} (h : fsB E V = false) : fcZ E (D ++ [V]) = fcZ E D := by
  unfold fcZ
  rw [List.filter_append]
  simp [h]
theorem fcZ_bd (E : List Int) (D : List (List Int)) : 0 ≤ fcZ E D ∧ fcZ E D ≤ D.length := by
  unfold fcZ
  have := List.length_filter_le (fun V => fsB E V) D
  omega
def fcL (M D : List (List Int)) : List Int := M.map fun E => fcZ E D
theorem fcL_len (M D : List (List Int)) : (fcL M D).length = M.length := by unfold fcL; simp
theorem fcL_at {M D : List (List Int)} {i : Nat} {E : List Int} (h : M[i]? = some E) : (fcL M D)[i]? = some (fcZ E D) := by unfold fcL; rw [List.getElem?_map, h]; rfl
/-- The program's counts: of the edits before i all, of edit i the first k. -/
def fcA (M D : List (List Int)) (i k : Nat) : List Int := fcL (M.take i) D ++ (fcL ((M.drop i).take 1) (D.take k) ++ fcL (M.drop (i + 1)) [])
theorem fcA_len (M D : List (List Int)) (i k : Nat) : (fcA M D i k).length = M.length := by
  unfold fcA
  simp only [List.length_append, fcL_len, List.length_take, List.length_drop]
  omega
theorem fcA_start (M D : List (List Int)) : fcA M D 0 0 = zE M.length := by
  unfold fcA
  apply List.ext_getElem?
  intro j
  have e : fcL (M.take 0) D ++ (fcL ((M.drop 0).take 1) (D.take 0) ++ fcL (M.drop (0 + 1)) []) = fcL M [] := by
    simp only [List.take_zero, List.drop_zero, Nat.zero_add]
    cases M with
    | nil => rfl
    | cons a r => simp [fcL]
  rw [e]
  unfold fcL zE
  rw [List.getElem?_map, List.getElem?_replicate]
  by_cases hj : j < M.length
  · rw [List.getElem?_eq_getElem hj, if_pos hj]; rfl
  · rw [List.getElem?_eq_none (by omega), if_neg hj]; rfl
theorem fcA_at {M D : List (List Int)} {i k : Nat} {E : List Int} (h : M[i]? = some E) : (fcA M D i k)[i]? = some (fcZ E (D.take k)) := by
  have hi := (List.getElem?_eq_some_iff.1 h).1
  unfold fcA
  rw [List.getElem?_append_right (by rw [fcL_len, List.length_take]; omega), fcL_len, List.length_take, Nat.min_eq_left (by omega), Nat.sub_self]
  have : (M.drop i).take 1 = [E] := by
    rw [List.drop_eq_getElem_cons hi, List.take_succ_cons, List.take_zero]
    rw [List.getElem?_eq_getElem hi] at h
    injection h with h
    rw [h]
  rw [this]
  rfl
theorem fcA_set {M D : List (List Int)} {i k : Nat} {E : List Int} {n : Int} (h : M[i]? = some E) (hn : n = fcZ E (D.take (k + 1))) : (fcA M D i k).set i n = fcA M D i (k + 1) := by
  have hi := (List.getElem?_eq_some_iff.1 h).1
  have e : (M.drop i).take 1 = [E] := by
    rw [List.drop_eq_getElem_cons hi, List.take_succ_cons, List.take_zero]
    rw [List.getElem?_eq_getElem hi] at h
    injection h with h
    rw [h]
  subst hn
  unfold fcA
  rw [List.set_append_right _ _ (by rw [fcL_len, List.length_take]; omega), fcL_len, List.length_take, Nat.min_eq_left (by omega), Nat.sub_self, e]
  rfl
theorem fcA_keep {M D : List (List Int)} {i k : Nat} {E : List Int} (h : M[i]? = some E) (hn : fcZ E (D.take (k + 1)) = fcZ E (D.take k)) : fcA M D i k = fcA M D i (k + 1) := by
  have hi := (List.getElem?_eq_some_iff.1 h).1
  have e : (M.drop i).take 1 = [E] := by
    rw [List.drop_eq_getElem_cons hi, List.take_succ_cons, List.take_zero]
    rw [List.getElem?_eq_getElem hi] at h
    injection h with h
    rw [h]
  unfold fcA
  rw [e]
  unfold fcL
  simp only [List.map_cons, List.map_nil, hn]
theorem fcA_next {M D : List (List Int)} {i : Nat} {E : List Int} (h : M[i]? = some E) : fcA M D i D.length = fcA M D (i + 1) 0 := by
  have hi := (List.getElem?_eq_some_iff.1 h).1
  have e : (M.drop i).take 1 = [E] := by
    rw [List.drop_eq_getElem_cons hi, List.take_succ_cons, List.take_zero]
    rw [List.getElem?_eq_getElem hi] at h
    injection h with h
    rw [h]
  unfold fcA
  rw [e, take_snoc h, List.take_length, List.take_zero]
  unfold fcL
  rw [List.map_append, List.append_assoc]
  congr 1
  simp only [List.map_cons, List.map_nil]
  congr 1
  cases hd : M.drop (i + 1) with
  | nil => rw [show M.drop (i + 1 + 1) = [] by rw [← List.drop_drop, hd]; rfl]; rfl
  | cons a r => rw [show M.drop (i + 1 + 1) = r by rw [← List.drop_drop, hd]; rfl]; simp
theorem fcA_end (M D : List (List Int)) : fcA M D M.length 0 = fcL M D := by
  unfold fcA
  rw [List.take_length, List.drop_length, List.drop_eq_nil_of_le (by omega)]
  simp [fcL]
/-- The model's counts: the first r records, and of the next one the first t edits that fail. -/
def fcB (M D : List (List Int)) (r : Nat) (V : List Int) (t : Nat) : List Int := (List.range M.length).map fun j : Nat => (match M[j]? with | some E => fcZ E (D.take r) | none => 0) + (if (j : Int) ∈ (feL M V).take t then 1 else 0)
theorem fcB_len (M D : List (List Int)) (r : Nat) (V : List Int) (t : Nat) : (fcB M D r V t).length = M.length := by unfold fcB; simp
theorem fcB_at {M D : List (List Int)} {r t j : Nat} {V E : List Int} (h : M[j]? = some E) : (fcB M D r V t)[j]? = some (fcZ E (D.take r) + (if (j : Int) ∈ (feL M V).take t then 1 else 0)) := by
  have hj := (List.getElem?_eq_some_iff.1 h).1
  unfold fcB
  rw [List.getElem?_map, List.getElem?_range hj]
  simp only [Option.map_some, h]
theorem pkUp_nodup (p : Nat → Bool) (n : Nat) : (pkUp p n).Nodup := by
  unfold pkUp
  have h1 : ((List.range n).filter p).Pairwise (· ≠ ·) := List.Pairwise.filter _ List.nodup_range
  exact List.Pairwise.map _ (fun a b h e => h (by exact Int.ofNat.inj e)) h1
theorem fcB_step {M D : List (List Int)} {r t j : Nat} {V E : List Int} (hj : M[j]? = some E) (ht : (feL M V)[t]? = some (j : Int)) :
    (fcB M D r V t)[j]? = some (fcZ E (D.take r)) ∧ (fcB M D r V t).set j (fcZ E (D.take r) + 1) = fcB M D r V (t + 1) := by
  have hnd : (feL M V).Nodup := pkUp_nodup _ _
  have htl := (List.getElem?_eq_some_iff.1 ht).1
  have hno : (j : Int) ∉ (feL M V).take t := by
    intro hm
    obtain ⟨k, hk, e⟩ := List.getElem_of_mem hm
    rw [List.length_take] at hk
    rw [List.getElem_take] at e
    have e2 := (List.getElem?_eq_some_iff.1 ht).2
    exact List.pairwise_iff_getElem.1 hnd k t (by omega) htl (by omega) (by rw [e, e2])
  refine ⟨by rw [fcB_at hj, if_neg hno]; simp, ?_⟩
  apply List.ext_getElem?
  intro k
  rw [List.getElem?_set, fcB_len]
  have hjl := (List.getElem?_eq_some_iff.1 hj).1
  by_cases e : j = k
  · subst e
    rw [if_pos rfl, if_pos hjl, fcB_at hj, if_pos (by rw [take_snoc ht]; simp)]
  · rw [if_neg e]
    by_cases hk : k < M.length
    · obtain ⟨F, hF⟩ : ∃ F, M[k]? = some F := ⟨_, List.getElem?_eq_getElem hk⟩
      rw [fcB_at hF, fcB_at hF, take_snoc ht]
      have : ((k : Int) ∈ (feL M V).take t ++ [(j : Int)]) ↔ ((k : Int) ∈ (feL M V).take t) := by
        rw [List.mem_append, List.mem_singleton]
        constructor
        · rintro (h | h)
          · exact h
          · omega
        · exact Or.inl
      simp only [this]
    · rw [List.getElem?_eq_none (by rw [fcB_len]; omega), List.getElem?_eq_none (by rw [fcB_len]; omega)]
theorem fcB_zero (M D : List (List Int)) (r : Nat) (V : List Int) : fcB M D r V 0 = fcL M (D.take r) := by
  apply List.ext_getElem?
  intro k
  by_cases hk : k < M.length
  · obtain ⟨F, hF⟩ : ∃ F, M[k]? = some F := ⟨_, List.getElem?_eq_getElem hk⟩
    rw [fcB_at hF, fcL_at hF]
    simp
  · rw [List.getElem?_eq_none (by rw [fcB_len]; omega), List.getElem?_eq_none (by rw [fcL_len]; omega)]
theorem fcB_full {M D : List (List Int)} {r : Nat} {V : List Int} (h : D[r]? = some V) : fcB M D r V (feL M V).length = fcL M (D.take (r + 1)) := by
  apply List.ext_getElem?
  intro k
  by_cases hk : k < M.length
  · obtain ⟨F, hF⟩ : ∃ F, M[k]? = some F := ⟨_, List.getElem?_eq_getElem hk⟩
    rw [fcB_at hF, fcL_at hF, List.take_length, take_snoc h]
    have hm : (k : Int) ∈ feL M V ↔ fsB F V = true := by
      unfold feL feUp
      constructor
      · intro hm
        obtain ⟨i, e, hi, hp⟩ := pkUp_mem hm
        obtain rfl : i = k := by omega
        rwa [fe_at hF] at hp
      · intro hp
        unfold pkUp
        exact List.mem_map.2 ⟨k, List.mem_filter.2 ⟨List.mem_range.2 hk, by rw [fe_at hF]; exact hp⟩, rfl⟩
    cases hh : fsB F V
    · rw [if_neg (by rw [hm, hh]; exact Bool.false_ne_true), fcZ_no hh]
      simp
    · rw [if_pos (by rw [hm]; exact hh), fcZ_yes hh]
  · rw [List.getElem?_eq_none (by rw [fcB_len]; omega), List.getElem?_eq_none (by rw [fcL_len]; omega)]
theorem fcL_nil (M : List (List Int)) : fcL M [] = zE M.length := by
  apply List.ext_getElem?
  intro j
  unfold fcL zE
  rw [List.getElem?_map, List.getElem?_replicate]
  by_cases hj : j < M.length
  · rw [List.getElem?_eq_getElem hj, if_pos hj]; rfl
  · rw [List.getElem?_eq_none (by omega), if_neg hj]; rfl
end Go.Proofs.Ytmcibcechffppaa

namespace Go.Proofs.Ytmcibcechffppaa
open Go.RowKit
set_option maxRecDepth 100000

/-- The values of records; a schema, edits and data for it. -/
def dV (R : List RV) : List (List Int) := R.map fun q => q.2.2
theorem dV_len (R : List RV) : (dV R).length = R.length := by unfold dV; simp
theorem dV_at {P : List PR} {i : Nat} {q : PR} (h : P[i]? = some q) : (dV (pM P))[i]? = some q.L := by unfold dV; rw [List.getElem?_map, pM_at h]; rfl
def sldB (S : List (ByteArray × Int)) (M : List (List Int)) (R : List RV) : Bool := elB S M && dokB S R
theorem sld_no1 {S : List (ByteArray × Int)} {M : List (List Int)} {R : List RV} (h : elB S M = false) : sldB S M R = false := by unfold sldB; rw [h]; rfl
theorem sld_no2 {S : List (ByteArray × Int)} {M : List (List Int)} {R : List RV} (h : dokB S R = false) : sldB S M R = false := by unfold sldB; rw [h, Bool.and_false]
theorem sld_yes {S : List (ByteArray × Int)} {M : List (List Int)} {R : List RV} (h : elB S M = true) (k : dokB S R = true) : sldB S M R = true := by unfold sldB; rw [h, k]; rfl
theorem iC_setE (L : List Int) (j : Nat) (v : Int) : iC (L.set j v) = (iC L).set j (.int .i64 v) := by unfold iC; rw [List.map_set]
theorem take_le_len {L : List (List Int)} {i : Nat} : (L.take i).length ≤ i := by rw [List.length_take]; omega

theorem sld_len {S : List (ByteArray × Int)} {M : List (List Int)} {R : List RV} (h : sldB S M R = true) : M.length ≤ 40 := by
  unfold sldB at h
  rw [Bool.and_eq_true] at h
  exact (el_get h.1).2.1
end Go.Proofs.Ytmcibcechffppaa

namespace Go.Proofs.Ytmcibcechffppaa
open Go.RowKit

theorem snoc_rec {α : Type} {P : List α → Prop} (h0 : P []) (h1 : ∀ l a, P l → P (l ++ [a])) (l : List α) : P l := by
  have : ∀ n (l : List α), l.length = n → P l := by
    intro n
    induction n with
    | zero => intro l hl; rw [List.eq_nil_of_length_eq_zero hl]; exact h0
    | succ n ih =>
      intro l hl
      have hne : l ≠ [] := by intro e; rw [e] at hl; simp at hl
      rw [← List.dropLast_concat_getLast hne]
      exact h1 _ _ (ih _ (by rw [List.length_dropLast]; omega))
  exact this _ l rfl

/-- Where a number belongs in an increasing list. -/
def plK (L : List Int) (n : Int) : Nat := (L.takeWhile fun x => decide (x < n)).length
/-- An increasing list with one number more, unless it is there. -/
def putL (L : List Int) (n : Int) : List Int := if n ∈ L then L else L.take (plK L n) ++ n :: L.drop (plK L n)
def metL (G : List Int) : List Int := G.foldl putL []
abbrev Inc (L : List Int) : Prop := L.Pairwise (· < ·)

theorem plK_le (L : List Int) (n : Int) : plK L n ≤ L.length := by unfold plK; exact List.Sublist.length_le (List.takeWhile_sublist _)
theorem plK_of {L : List Int} {n : Int} {k : Nat} (hk : k ≤ L.length) (h1 : ∀ j v, j < k → L[j]? = some v → v < n) (h2 : k < L.length → ∀ v, L[k]? = some v → ¬ v < n) : plK L n = k := by
  unfold plK
  induction L generalizing k with
  | nil => simp at hk; simp [hk]
  | cons a r ih =>
    cases k with
    | zero =>
      have := h2 (by simp) a (by simp)
      simp [this]
    | succ k =>
      have ha := h1 0 a (by omega) (by simp)
      simp only [List.takeWhile_cons, decide_eq_true ha, if_true, List.length_cons]
      congr 1
      refine ih (by simp at hk; exact hk) (fun j v hj hv => h1 (j + 1) v (by omega) (by simpa using hv)) (fun hl v hv => h2 (by simp; exact hl) v (by simpa using hv))
theorem plK_lt {L : List Int} {n : Int} {j : Nat} {v : Int} (hj : j < plK L n) (hv : L[j]? = some v) : v < n := by
  unfold plK at hj
  have hp := (List.takeWhile_prefix (p := fun x : Int => decide (x < n)) (l := L))
  have e : (L.takeWhile fun x => decide (x < n))[j]? = some v := by
    obtain ⟨t, ht⟩ := hp
    rw [← ht, List.getElem?_append_left hj] at hv
    exact hv
  have hm := List.mem_of_getElem? e
  have key : ∀ M : List Int, v ∈ M.takeWhile (fun x => decide (x < n)) → v < n := by
    intro M
    induction M with
    | nil => intro h; cases h
    | cons a r ih =>
      intro h
      by_cases ha : a < n
      · simp only [List.takeWhile_cons, decide_eq_true ha, if_true, List.mem_cons] at h
        rcases h with rfl | h
        · exact ha
        · exact ih h
      · simp [ha] at h
  exact key L hm
theorem plK_ge {L : List Int} {n v : Int} {j : Nat} (hI : Inc L) (hj : plK L n ≤ j) (hv : L[j]? = some v) : n ≤ v := by
  have hlj := (List.getElem?_eq_some_iff.1 hv).1
  have hk : plK L n < L.length := by omega
  have h0 : ¬ L[plK L n] < n := by
    have : ∀ (M : List Int) (h : plK M n < M.length), ¬ M[plK M n] < n := by
      intro M
      induction M with
      | nil => intro h; simp at h
      | cons a r ih =>
        intro h
        unfold plK at h ⊢
        by_cases ha : a < n
        · have e : (List.takeWhile (fun x => decide (x < n)) (a :: r)) = a :: List.takeWhile (fun x => decide (x < n)) r := by simp [ha]
          simp only [e, List.length_cons] at h ⊢
          simp only [List.getElem_cons_succ]
          exact ih (by unfold plK; simpa using h)
        · have e : (List.takeWhile (fun x => decide (x < n)) (a :: r)) = [] := by simp [ha]
          simp only [e, List.length_nil, List.getElem_cons_zero]
          exact ha
    exact this L hk
  rcases Nat.lt_or_ge (plK L n) j with h | h
  · have := List.pairwise_iff_getElem.1 hI (plK L n) j hk hlj h
    have e := (List.getElem?_eq_some_iff.1 hv).2
    omega
  · have ej : j = plK L n := by omega
    subst ej
    have e := (List.getElem?_eq_some_iff.1 hv).2
    omega

theorem putL_mem {L : List Int} {n x : Int} : x ∈ putL L n ↔ x ∈ L ∨ x = n := by
  unfold putL
  split
  · rename_i h
    constructor
    · exact Or.inl
    · rintro (h' | rfl)
      · exact h'
      · exact h
  · rw [List.mem_append, List.mem_cons]
    constructor
    · rintro (h | rfl | h)
      · exact Or.inl (List.mem_of_mem_take h)
      · exact Or.inr rfl
      · exact Or.inl (List.mem_of_mem_drop h)
    · rintro (h | rfl)
      · rw [← List.take_append_drop (plK L n) L, List.mem_append] at h
        exact h.imp id Or.inr
      · exact Or.inr (Or.inl rfl)
theorem putL_len (L : List Int) (n : Int) : (putL L n).length = if n ∈ L then L.length else L.length + 1 := by
  unfold putL
  split
  · rfl
  · have := plK_le L n
    simp only [List.length_append, List.length_take, List.length_cons, List.length_drop]
    omega
theorem putL_inc {L : List Int} {n : Int} (hI : Inc L) : Inc (putL L n) := by
  unfold putL
  split
  · exact hI
  · rename_i hn
    have h1 : ∀ x ∈ L.take (plK L n), x < n := by
      intro x hx
      obtain ⟨j, hj, e⟩ := List.mem_take_iff_getElem.1 hx
      have hj1 : j < plK L n := by omega
      have hj2 : j < L.length := by omega
      exact plK_lt hj1 (by rw [← e]; exact List.getElem?_eq_getElem hj2)
    have h2 : ∀ x ∈ L.drop (plK L n), n < x := by
      intro x hx
      obtain ⟨j, hj, e⟩ := List.mem_drop_iff_getElem.1 hx
      have hat : L[plK L n + j]? = some x := by rw [List.getElem?_eq_getElem (by omega), e]
      have := plK_ge (n := n) hI (Nat.le_add_right _ _) hat
      have hne : x ≠ n := fun h => hn (h ▸ List.mem_of_mem_drop hx)
      omega
    show List.Pairwise _ _
    rw [List.pairwise_append, List.pairwise_cons]
    refine ⟨hI.sublist (List.take_sublist _ _), ⟨h2, hI.sublist (List.drop_sublist _ _)⟩, fun a ha b hb => ?_⟩
    rcases List.mem_cons.1 hb with rfl | hb
    · exact h1 a ha
    · have := h1 a ha
      have := h2 b hb
      omega
theorem metL_snoc (G : List Int) (x : Int) : metL (G ++ [x]) = putL (metL G) x := by unfold metL; rw [List.foldl_append]; rfl
theorem metL_inc (G : List Int) : Inc (metL G) := by
  induction G using snoc_rec with
  | h0 => exact List.Pairwise.nil
  | h1 G x ih => rw [metL_snoc]; exact putL_inc ih
theorem metL_mem (G : List Int) (x : Int) : x ∈ metL G ↔ x ∈ G := by
  induction G using snoc_rec with
  | h0 => rfl
  | h1 G y ih => rw [metL_snoc, putL_mem, ih, List.mem_append, List.mem_singleton]
theorem metL_len (G : List Int) : (metL G).length ≤ G.length := by
  induction G using snoc_rec with
  | h0 => exact Nat.le_refl _
  | h1 G y ih =>
    rw [metL_snoc, putL_len, List.length_append, List.length_singleton]
    split <;> omega

/-- The greatest number of an increasing list: its last. -/
def lsZ (L : List Int) : Int := match L.getLast? with | some v => v | none => 0
theorem lsZ_at {L : List Int} {v : Int} (h : L[L.length - 1]? = some v) : lsZ L = v := by
  unfold lsZ
  rw [List.getLast?_eq_getElem?, h]
theorem lsZ_top {L : List Int} (hI : Inc L) (hne : L ≠ []) : lsZ L ∈ L ∧ ∀ x ∈ L, x ≤ lsZ L := by
  have hl : 0 < L.length := List.length_pos_iff.2 hne
  have e : L[L.length - 1]? = some L[L.length - 1] := List.getElem?_eq_getElem (by omega)
  rw [lsZ_at e]
  refine ⟨List.getElem_mem _, fun x hx => ?_⟩
  obtain ⟨j, hj, rfl⟩ := List.getElem_of_mem hx
  rcases Nat.lt_or_ge j (L.length - 1) with h | h
  · have := List.pairwise_iff_getElem.1 hI j (L.length - 1) hj (by omega) h
    omega
  · have : j = L.length - 1 := by omega
    subst this
    omega
/-- The greatest number of a list. -/
def mxZ (G : List Int) : Int := lsZ (metL G)
theorem met_ne {G : List Int} (h : G ≠ []) : metL G ≠ [] := by
  obtain ⟨a, r, rfl⟩ := List.exists_cons_of_ne_nil h
  intro e
  have := (metL_mem (a :: r) a).2 (by simp)
  rw [e] at this
  cases this
theorem mx_uniq {G : List Int} {m : Int} (h1 : m ∈ G) (h2 : ∀ x ∈ G, x ≤ m) : mxZ G = m := by
  obtain ⟨k1, k2⟩ := lsZ_top (metL_inc G) (met_ne (List.ne_nil_of_mem h1))
  have a := h2 _ ((metL_mem G _).1 k1)
  have b := k2 _ ((metL_mem G _).2 h1)
  unfold mxZ
  omega
theorem mx_top {G : List Int} {x : Int} (h : x ∈ G) : x ≤ mxZ G := (lsZ_top (metL_inc G) (met_ne (List.ne_nil_of_mem h))).2 x ((metL_mem G x).2 h)

/-- The number of groups, or 0 where they are none. -/
def inR (G : List Int) (lo hi : Int) : Bool := G.all fun x => inB x lo hi
def gsB (G : List Int) : Bool := inR G 0 7 && decide (2 ≤ (metL G).length) && decide (mxZ G = (metL G).length - 1)
def gsZ (G : List Int) : Int := if gsB G then (metL G).length else 0
theorem gs_out {G : List Int} (h : inR G 0 7 = false) : gsB G = false := by unfold gsB; rw [h]; rfl
theorem gs_few {G : List Int} (h : (metL G).length < 2) : gsB G = false := by
  unfold gsB
  rw [decide_eq_false (by omega), Bool.and_false]
  rfl
theorem gs_gap {G : List Int} (h : mxZ G ≠ (metL G).length - 1) : gsB G = false := by
  unfold gsB
  rw [decide_eq_false h, Bool.and_false]
theorem gs_yes {G : List Int} (h1 : inR G 0 7 = true) (h2 : 2 ≤ (metL G).length) (h3 : mxZ G = (metL G).length - 1) : gsB G = true := by
  unfold gsB
  rw [h1, decide_eq_true h2, decide_eq_true h3]
  rfl
theorem gsB_get {G : List Int} (h : gsB G = true) : inR G 0 7 = true ∧ 2 ≤ (metL G).length ∧ mxZ G = (metL G).length - 1 := by
  unfold gsB at h
  simp only [Bool.and_eq_true, decide_eq_true_eq] at h
  exact ⟨h.1.1, h.1.2, h.2⟩
theorem gsZ_pos (G : List Int) : (0 < gsZ G) ↔ gsB G = true := by
  unfold gsZ
  cases h : gsB G with
  | false => simp
  | true =>
    have := (gsB_get h).2.1
    simp
    omega
theorem gsZ_bd (G : List Int) : 0 ≤ gsZ G ∧ gsZ G ≤ G.length := by
  unfold gsZ
  have := metL_len G
  split <;> omega
theorem inR_bad {G : List Int} {i : Nat} {v lo hi : Int} (h : G[i]? = some v) (hb : inB v lo hi = false) : inR G lo hi = false := by
  unfold inR
  rw [List.all_eq_false]
  exact ⟨v, List.mem_of_getElem? h, by rw [hb]; exact Bool.false_ne_true⟩
theorem inR_all {G : List Int} {lo hi : Int} (h : ∀ j, j < G.length → ∃ v, G[j]? = some v ∧ inB v lo hi = true) : inR G lo hi = true := by
  unfold inR
  rw [List.all_eq_true]
  intro x hx
  obtain ⟨j, hj, e⟩ := List.getElem_of_mem hx
  obtain ⟨v, hv, hb⟩ := h j hj
  rw [List.getElem?_eq_getElem hj, e] at hv
  cases hv
  exact hb
/-- A number that is not below the length: no grouping. -/
theorem gs_wide {G : List Int} {i : Nat} {v : Int} (h : G[i]? = some v) (hb : v < 0 ∨ (G.length : Int) ≤ v) : gsB G = false := by
  cases hg : gsB G with
  | false => rfl
  | true =>
    obtain ⟨h1, h2, h3⟩ := gsB_get hg
    have hm := List.mem_of_getElem? h
    have ht := mx_top hm
    have hl := metL_len G
    unfold inR at h1
    rw [List.all_eq_true] at h1
    have := (inB_iff _ _ _).1 (h1 v hm)
    omega
theorem inR_of {G : List Int} (hl : G.length ≤ 8) (h : ∀ j, j < G.length → ∃ v, G[j]? = some v ∧ 0 ≤ v ∧ v < (G.length : Int)) : inR G 0 7 = true :=
  inR_all fun j hj => by
    obtain ⟨v, hv, h0, h1⟩ := h j hj
    exact ⟨v, hv, (inB_iff _ _ _).2 ⟨h0, by omega⟩⟩

/-- Is it a grouping for a schema? How many groups has it? -/
def okG (S : List (ByteArray × Int)) (v : Int) (G : List Int) : Bool := decide (0 ≤ v) && (match S[v.toNat]? with | some p => decide ((G.length : Int) = p.2) | none => false)
def gvB (S : List (ByteArray × Int)) (v : Int) (G : List Int) : Bool := okG S v G && gsB G
def gvZ (S : List (ByteArray × Int)) (v : Int) (G : List Int) : Int := if gvB S v G then (metL G).length else 0
theorem okG_neg {S : List (ByteArray × Int)} {v : Int} {G : List Int} (h : v < 0) : okG S v G = false := by unfold okG; rw [decide_eq_false (by omega)]; rfl
theorem okG_far {S : List (ByteArray × Int)} {v : Int} {G : List Int} (h : (S.length : Int) ≤ v) : okG S v G = false := by
  unfold okG
  rw [List.getElem?_eq_none (by omega), Bool.and_false]
theorem okG_at {S : List (ByteArray × Int)} {k : Nat} {nm : ByteArray} {lv : Int} {G : List Int} (h : S[k]? = some (nm, lv)) : okG S (k : Int) G = decide ((G.length : Int) = lv) := by
  unfold okG
  rw [Int.toNat_natCast, h, decide_eq_true (by omega)]
  rfl
theorem gv_no {S : List (ByteArray × Int)} {v : Int} {G : List Int} (h : okG S v G = false) : gvB S v G = false := by unfold gvB; rw [h]; rfl
theorem gv_of {S : List (ByteArray × Int)} {v : Int} {G : List Int} (h : okG S v G = true) : gvB S v G = gsB G := by unfold gvB; rw [h]; rfl
theorem gvZ_no {S : List (ByteArray × Int)} {v : Int} {G : List Int} (h : gvB S v G = false) : gvZ S v G = 0 := by unfold gvZ; rw [h]; rfl
theorem gvZ_yes {S : List (ByteArray × Int)} {v : Int} {G : List Int} (h : gvB S v G = true) : gvZ S v G = (metL G).length := by unfold gvZ; rw [h]; rfl
theorem gvB_get {S : List (ByteArray × Int)} {v : Int} {G : List Int} (h : gvB S v G = true) : ∃ (k : Nat) (nm : ByteArray) (lv : Int), v = (k : Int) ∧ S[k]? = some (nm, lv) ∧ (G.length : Int) = lv ∧ gsB G = true := by
  unfold gvB at h
  simp only [Bool.and_eq_true] at h
  obtain ⟨h1, h2⟩ := h
  by_cases h0 : v < 0
  · rw [okG_neg h0] at h1; cases h1
  · obtain ⟨k, rfl⟩ := Int.eq_ofNat_of_zero_le (show 0 ≤ v by omega)
    cases hk : S[k]? with
    | none =>
      rw [okG_far (by have := List.getElem?_eq_none_iff.1 hk; omega)] at h1
      cases h1
    | some p =>
      obtain ⟨nm, lv⟩ := p
      rw [okG_at hk, decide_eq_true_eq] at h1
      exact ⟨k, nm, lv, rfl, hk, h1, h2⟩
theorem gvZ_pos (S : List (ByteArray × Int)) (v : Int) (G : List Int) : decide (0 < gvZ S v G) = gvB S v G := by
  cases h : gvB S v G with
  | false => rw [gvZ_no h]; rfl
  | true =>
    obtain ⟨_, _, _, _, _, _, hg⟩ := gvB_get h
    have := (gsB_get hg).2.1
    rw [gvZ_yes h, decide_eq_true_eq]
    omega
end Go.Proofs.Ytmcibcechffppaa

namespace Go.Proofs.Ytmcibcechffppaa
open Go.RowKit
set_option maxRecDepth 100000

set_option maxHeartbeats 1000000 in
theorem l1All_any (x : Option Addr) (cap : Nat) (G : List Int) (lo hi : Int) (w : World) (hm : G.length ≤ 1048576) (hL : Rd w x (iC G)) :
    Calls Try.prog 129 #[.slice x G.length cap, .int .i64 lo, .int .i64 hi] w fun e w' => e = .returned (.bool (inR G lo hi)) ∧ w = w' := by
  have hLh := Lib.hid hL
  clear hL
  go_enter Try.func129, Try.ntmps129
  go_wp2
  go_loop [11] (fun c => ∃ i : Nat, i ≤ G.length ∧ c = .int .i64 i ∧ Hid (∀ j, j < i → ∃ v, G[j]? = some v ∧ inB v lo hi = true)) (fun c => G.length - (intOf c).toNat)
  case atStart => exact ⟨0, by omega, rfl, fun j hj => absurd hj (by omega)⟩
  case round =>
    obtain ⟨i, hi', rfl, hall⟩ := hrel
    by_cases hlt : i < G.length
    · obtain ⟨bl, off, v, hx, hbl, hGi, hc⟩ := hLh.out.int (i := i) hlt
      subst hx
      have hlt' : (i : Int) < (G.length : Int) := by omega
      cases hb : inB v lo hi
      · have hv := Lib.hid (inR_bad hGi hb)
        clear hGi
        go_wp2_with (go_at_call 52; refine (l1In_any _ _ _ _).mono ?_; rintro e w1 ⟨rfl, rfl⟩)
        go_ret
        exact ⟨ret_bool hv.out.symm, rfl⟩
      · replace hGi := Lib.hid hGi
        go_wp2_with (go_at_call 52; refine (l1In_any _ _ _ _).mono ?_; rintro e w1 ⟨rfl, rfl⟩)
        go_round
        case rel =>
          refine ⟨i + 1, by omega, by go_num, fun j hj => ?_⟩
          rcases Nat.lt_or_ge j i with h | h
          · exact hall.out j h
          · obtain rfl : j = i := by omega
            exact ⟨v, hGi.out, hb⟩
        case measure => simp [intOf]; omega
    · have hij : i = G.length := by omega
      subst hij
      have hv := Lib.hid (inR_all hall.out)
      clear hall
      go_wp2
      go_ret
      exact ⟨ret_bool hv.out.symm, rfl⟩

/-- The array of the levels that are met. -/
def UsedAt (w : World) (g : Nat) (t : TypeId) (G : List Int) : Prop := ∃ cs : Array Value, Wb w g t cs ∧ cs.size = 8 ∧ ∀ j : Nat, j < 8 → cs[j]? = some (.bool (decide ((j : Int) ∈ G)))
theorem UsedAt.start (w : World) (t : TypeId) : UsedAt (w.alloc (.cells #[.bool false, .bool false, .bool false, .bool false, .bool false, .bool false, .bool false, .bool false] t)) w.heap.size t [] := by
  refine ⟨_, Wb.new w t _, rfl, fun j hj => ?_⟩
  have : j = 0 ∨ j = 1 ∨ j = 2 ∨ j = 3 ∨ j = 4 ∨ j = 5 ∨ j = 6 ∨ j = 7 := by omega
  rcases this with rfl | rfl | rfl | rfl | rfl | rfl | rfl | rfl <;> rfl
theorem UsedAt.same {w : World} {g : Nat} {t : TypeId} {G : List Int} {k : Nat} (h : UsedAt w g t G) (hk : (k : Int) ∈ G) : UsedAt w g t (G ++ [(k : Int)]) := by
  obtain ⟨cs, h1, h2, h3⟩ := h
  refine ⟨cs, h1, h2, fun j hj => ?_⟩
  rw [h3 j hj]
  congr 2
  rw [decide_eq_decide, List.mem_append, List.mem_singleton]
  exact ⟨Or.inl, fun h => h.elim id (fun e => e ▸ hk)⟩
theorem UsedAt.put {w : World} {g : Nat} {t : TypeId} {G : List Int} {k : Nat} (h : UsedAt w g t G) (hk : k < 8) : UsedAt (w.setCell ⟨g, k, none⟩ (.bool true)) g t (G ++ [(k : Int)]) := by
  obtain ⟨cs, h1, h2, h3⟩ := h
  refine ⟨_, h1.put k (.bool true), by simpa using h2, fun j hj => ?_⟩
  rw [Array.getElem?_setIfInBounds]
  split
  · rename_i e
    subst e
    rw [if_pos (by omega)]
    simp
  · rename_i e
    rw [h3 j hj]
    congr 2
    rw [decide_eq_decide, List.mem_append, List.mem_singleton]
    exact ⟨Or.inl, fun h => h.elim id (fun e2 => absurd (by omega) e)⟩
theorem UsedAt.facts {w : World} {g : Nat} {t : TypeId} {G : List Int} (h : UsedAt w g t G) {k : Nat} (hk : k < 8) : w.cell? ⟨g, k, none⟩ = some (.bool (decide ((k : Int) ∈ G))) ∧ w.frozen? ⟨g, k, none⟩ = false ∧ g < w.heap.size := by
  obtain ⟨cs, h1, h2, h3⟩ := h
  exact ⟨(h1.read k).trans (h3 k hk), h1.free k, h1.inside⟩
theorem met_step {G : List Int} {i : Nat} {v : Int} (h : G[i]? = some v) : ((metL (G.take (i + 1))).length : Int) = if v ∈ G.take i then ((metL (G.take i)).length : Int) else (metL (G.take i)).length + 1 := by
  rw [take_snoc h, metL_snoc, putL_len]
  by_cases hv : v ∈ metL (G.take i)
  · rw [if_pos hv, if_pos ((metL_mem _ _).1 hv)]
  · rw [if_neg hv, if_neg (fun h => hv ((metL_mem _ _).2 h))]
    omega

end Go.Proofs.Ytmcibcechffppaa
