/-
  Reading back a schema: plain mathematics.
-/
import Derived.Test.YtcmfoclalcmamabGreatDoorSchT
import Derived.Test.YtcmfoclalcmamabGreatDoorSchP
namespace Go.Proofs.YtcmfoclalcmamabGreatDoor
open Go.RowKit
set_option maxRecDepth 100000

theorem split_sizes (sep : ByteArray) : ∀ (k : Nat) (s : ByteArray), ∀ p ∈ Lib.splitB sep 0 k s, p.size ≤ s.size
  | 0, s, p, h => by
    rw [Lib.splitB_zero] at h
    simp at h
    rw [h]
    exact Nat.le_refl _
  | k + 1, s, p, h => by
    unfold Lib.splitB at h
    split at h
    · simp at h
      rw [h]
      exact Nat.le_refl _
    · rcases List.mem_cons.1 h with h | h
      · rw [h, ByteArray.size_extract]
        omega
      · have := split_sizes sep k _ p h
        rw [ByteArray.size_extract] at this
        omega
theorem spl_sizes (s : ByteArray) (b : UInt8) : ∀ p ∈ spL s b, p.size ≤ s.size := by
  have hS : ∀ i, ∀ p ∈ (spS s b i).1, p.size ≤ s.size := by
    intro i
    induction i with
    | zero => intro p hp; simp [spS] at hp
    | succ i ih =>
      intro p hp
      unfold spS at hp
      split at hp
      · rcases List.mem_append.1 hp with hp | hp
        · exact ih p hp
        · simp at hp
          rw [hp, ByteArray.size_extract]
          omega
      · exact ih p hp
  intro p hp
  unfold spL at hp
  rcases List.mem_append.1 hp with hp | hp
  · exact hS _ p hp
  · simp at hp
    rw [hp, ByteArray.size_extract]
    omega

/-- Each piece is read; all are, or none. -/
def mapO (f : ByteArray → Option (ByteArray × Int)) : List ByteArray → Option (List (ByteArray × Int))
  | [] => some []
  | t :: r => match f t, mapO f r with
    | some p, some S => some (p :: S)
    | _, _ => none
theorem mapO_snoc (f : ByteArray → Option (ByteArray × Int)) (p : ByteArray × Int) : ∀ (L : List ByteArray) (S : List (ByteArray × Int)) (t : ByteArray), mapO f L = some S → f t = some p → mapO f (L ++ [t]) = some (S ++ [p])
  | [], S, t, h, e => by
    simp [mapO] at h
    subst h
    simp [mapO, e]
  | u :: L, S, t, h, e => by
    simp only [mapO] at h
    cases hu : f u with
    | none => rw [hu] at h; cases h
    | some q =>
      cases hL : mapO f L with
      | none => rw [hu, hL] at h; cases h
      | some T =>
        rw [hu, hL] at h
        simp at h
        subst h
        simp only [List.cons_append, mapO, hu, mapO_snoc f p L T t hL e]
theorem mapO_bad (f : ByteArray → Option (ByteArray × Int)) : ∀ (L : List ByteArray) (i : Nat) (t : ByteArray), L[i]? = some t → f t = none → mapO f L = none
  | [], i, t, h, e => by simp at h
  | u :: L, 0, t, h, e => by
    simp at h
    subst h
    simp only [mapO, e]
  | u :: L, i + 1, t, h, e => by
    simp only [List.getElem?_cons_succ] at h
    have := mapO_bad f L i t h e
    simp only [mapO, this]
    cases f u <;> rfl
theorem mapO_len (f : ByteArray → Option (ByteArray × Int)) : ∀ (L : List ByteArray) (S : List (ByteArray × Int)), mapO f L = some S → S.length = L.length
  | [], S, h => by simp [mapO] at h; subst h; rfl
  | u :: L, S, h => by
    simp only [mapO] at h
    cases hu : f u with
    | none => rw [hu] at h; cases h
    | some q =>
      cases hL : mapO f L with
      | none => rw [hu, hL] at h; cases h
      | some T =>
        rw [hu, hL] at h
        simp at h
        subst h
        simp [mapO_len f L T hL]
theorem mapO_map (f : ByteArray → Option (ByteArray × Int)) (g : ByteArray × Int → ByteArray) : ∀ (S : List (ByteArray × Int)), (∀ p ∈ S, f (g p) = some p) → mapO f (S.map g) = some S
  | [], _ => rfl
  | p :: S, h => by
    rw [List.map_cons]
    simp only [mapO, h p (by simp), mapO_map f g S (fun q hq => h q (List.mem_cons_of_mem _ hq))]

/-- The program's reading of a piece; the model's. -/
def iPc (t : ByteArray) : Option (ByteArray × Int) := (atV (cutB t 58)).map fun n => (cutA t 58, n)
def sPc (t : ByteArray) : Option (ByteArray × Int) := match spL t 58 with
  | [a, b] => some (a, rdZ b)
  | _ => none
def iPs (s : ByteArray) : List ByteArray := Lib.splitB ⟨#[44]⟩ 0 (min 7 (s.size + 1) - 1) s
def iLo (s : ByteArray) : Option (List (ByteArray × Int)) := mapO iPc (iPs s)
def sLo (s : ByteArray) : Option (List (ByteArray × Int)) := mapO sPc (spL s 44)

/-- The bytes of a name and of a number are no signs. -/
theorem name_no {s : ByteArray} (h : nmB s = true) {c : UInt8} (hc : c.toNat < 97) : c ∉ s.data.toList := by
  intro hm
  unfold nmB at h
  simp only [Bool.and_eq_true, List.all_eq_true] at h
  have := (chB_iff c).1 (h.2 c hm)
  omega
theorem num_no {n : Int} {c : UInt8} (hc : c.toNat < 48 ∨ 57 < c.toNat) : c ∉ (numZ n).data.toList := by
  intro hm
  have h : c ∈ Lib.decDigits n.toNat := by
    unfold numZ numT at hm
    simpa using hm
  have := (dgB_iff c).1 (dec_dig _ c h)
  omega
theorem vaT_list (p : ByteArray × Int) : (vaT p).data.toList = p.1.data.toList ++ 58 :: (numZ p.2).data.toList := by
  unfold vaT
  simp
theorem vaT_no {p : ByteArray × Int} (h : vaB p = true) : (44 : UInt8) ∉ (vaT p).data.toList := by
  unfold vaB at h
  simp only [Bool.and_eq_true] at h
  rw [vaT_list]
  intro hm
  rcases List.mem_append.1 hm with hm | hm
  · exact name_no h.1 (by decide) hm
  · rcases List.mem_cons.1 hm with hm | hm
    · exact absurd hm (by decide)
    · exact num_no (.inl (by decide)) hm
theorem iPc_vaT {p : ByteArray × Int} (h : vaB p = true) : iPc (vaT p) = some p := by
  unfold vaB at h
  simp only [Bool.and_eq_true] at h
  have hlv := (lvB_iff _).1 h.2
  have hc := cut_hit (b := 58) p.1.data.toList (numZ p.2).data.toList (name_no h.1 (by decide))
  have ha : cutA (vaT p) 58 = p.1 := by
    unfold cutA
    rw [vaT_list, hc]
  have hb : cutB (vaT p) 58 = numZ p.2 := by
    unfold cutB
    rw [vaT_list, hc]
  have hv : atV (numZ p.2) = some p.2 := by
    unfold atV
    have : (numZ p.2).data.toList = Lib.itoa p.2 := by
      unfold numZ numT Lib.itoa
      rw [if_neg (by omega)]
    rw [this, atoi_itoa p.2 (by omega) (by omega)]
  unfold iPc
  rw [hb, hv, ha]
  rfl
theorem rdZ_num {n : Int} (h0 : 0 < n) (h1 : n < 10) : rdZ (numZ n) = n := by
  have e : nmL (numZ n) = Lib.decDigits n.toNat := by unfold nmL numZ numT; simp
  have hs : (numZ n).size = 1 := by rw [← nmL_len, e, Lib.decDigits_one (by omega)]; rfl
  rw [rd_good ((inB_iff _ _ _).2 (by omega)) (fun h => by omega) (by rw [e]; exact dec_dig _), e, dec_val]
  omega
theorem sPc_vaT {p : ByteArray × Int} (h : vaB p = true) : sPc (vaT p) = some p := by
  unfold vaB at h
  simp only [Bool.and_eq_true] at h
  have hlv := (lvB_iff _).1 h.2
  have hs : spL (vaT p) 58 = [p.1, numZ p.2] := by
    refine spL_join (x := p.1) (r := [numZ p.2]) ?_ ?_
    · rw [vaT_list, List.map_cons, Lib.join_cons, List.map_cons, List.map_nil, tail_cons]
      simp [Lib.joinTail]
    · intro y hy
      rcases List.mem_cons.1 hy with hy | hy
      · subst hy
        exact name_no h.1 (by decide)
      · simp at hy
        subst hy
        exact num_no (.inr (by decide))
  unfold sPc
  rw [hs]
  simp only
  rw [rdZ_num (by omega) (by omega)]
theorem stT_list (S : List (ByteArray × Int)) : (stT S).data.toList = Lib.join ((S.map vaT).map (·.data.toList)) [44] := by
  unfold stT
  rw [List.map_map]
  rfl
theorem sLo_stT {S : List (ByteArray × Int)} (h : schB S = true) : sLo (stT S) = some S := by
  have hl := schB_len h
  cases S with
  | nil => simp at hl
  | cons p r =>
    unfold sLo
    rw [spL_join (x := vaT p) (r := r.map vaT) (by rw [stT_list]; rfl) ?_]
    · exact mapO_map sPc vaT (p :: r) (fun q hq => sPc_vaT (schB_va h hq))
    · intro y hy
      have hy' : y ∈ (p :: r).map vaT := hy
      obtain ⟨q, hq, rfl⟩ := List.mem_map.1 hy'
      exact vaT_no (schB_va h hq)
theorem join_len : ∀ (r : List (List UInt8)) (x : List UInt8), r.length ≤ (x ++ Lib.joinTail [44] r).length
  | [], x => by simp
  | y :: r, x => by
    have := join_len r y
    rw [tail_cons]
    simp only [List.length_append, List.length_cons] at this ⊢
    omega
theorem iLo_stT {S : List (ByteArray × Int)} (h : schB S = true) : iLo (stT S) = some S := by
  have hl := schB_len h
  cases S with
  | nil => simp at hl
  | cons p r =>
    have hn : r.length ≤ (stT (p :: r)).size := by
      have h1 := join_len ((r.map vaT).map (·.data.toList)) (vaT p).data.toList
      have h2 := congrArg List.length (stT_list (p :: r))
      rw [List.map_cons, List.map_cons, Lib.join_cons] at h2
      rw [← h2] at h1
      simpa using h1
    unfold iLo iPs
    rw [splitB_join (x := vaT p) (r := r.map vaT) (k := min 7 ((stT (p :: r)).size + 1) - 1) (by simp at hl ⊢; omega) (by rw [stT_list]; rfl) ?_]
    · exact mapO_map iPc vaT (p :: r) (fun q hq => iPc_vaT (schB_va h hq))
    · intro y hy
      have hy' : y ∈ (p :: r).map vaT := hy
      obtain ⟨q, hq, rfl⟩ := List.mem_map.1 hy'
      exact vaT_no (schB_va h hq)

/-- The schema that a text is, if it is one. -/
def prO (s : ByteArray) : Option (List (ByteArray × Int)) := match sLo s with
  | some S => if schB S = true ∧ (stT S).data.toList = s.data.toList then some S else none
  | none => none
theorem ba_ext {a b : ByteArray} (h : a.data.toList = b.data.toList) : a = b := by
  cases a with | mk x => cases b with | mk y =>
  simp at h
  rw [h]
theorem prO_some {s : ByteArray} {S : List (ByteArray × Int)} (h : prO s = some S) : schB S = true ∧ stT S = s := by
  unfold prO at h
  cases e : sLo s with
  | none => rw [e] at h; cases h
  | some T =>
    rw [e] at h
    simp only at h
    split at h
    · rename_i hc
      injection h with h
      subst h
      exact ⟨hc.1, ba_ext hc.2⟩
    · cases h
theorem prO_stT {S : List (ByteArray × Int)} (h : schB S = true) : prO (stT S) = some S := by
  unfold prO
  rw [sLo_stT h]
  simp only
  rw [if_pos ⟨h, by first | rfl | trivial⟩]
/-- The model's way ends so; and so does the program's. -/
theorem prO_model {s : ByteArray} : prO s = match sLo s with
  | some S => if schB S = true ∧ (stT S).data.toList = s.data.toList then some S else none
  | none => none := rfl
theorem prO_prog {s : ByteArray} : prO s = match iLo s with
  | some S => if schB S = true ∧ (stT S).data.toList = s.data.toList then some S else none
  | none => none := by
  cases hp : prO s with
  | some S =>
    obtain ⟨h1, h2⟩ := prO_some hp
    subst h2
    rw [iLo_stT h1]
    simp only
    rw [if_pos ⟨h1, by first | rfl | trivial⟩]
  | none =>
    cases e : iLo s with
    | none => rfl
    | some T =>
      simp only
      rw [if_neg]
      rintro ⟨h1, h2⟩
      have := ba_ext h2
      subst this
      rw [prO_stT h1] at hp
      cases hp
end Go.Proofs.YtcmfoclalcmamabGreatDoor
