import Derived.Test.YtgkaalonmkcclaaDoorEdH
import Derived.Test.YtgkaalonmkcclaaDoorEdA
import Derived.Test.YtgkaalonmkcclaaDoorEdP
namespace Go.Proofs.YtgkaalonmkcclaaDoor
open Go.RowKit
set_option maxRecDepth 100000

/-- Two edits for a schema. -/
def seeB (S : List (ByteArray × Int)) (E F : List Int) : Bool := seB S E && edB S F
def ctR (S : List (ByteArray × Int)) (E F : List Int) : Bool := seeB S E F && ctB E F
theorem see_no1 {S : List (ByteArray × Int)} {E F : List Int} (h : seB S E = false) : seeB S E F = false ∧ ctR S E F = false := by unfold ctR seeB; rw [h]; exact ⟨rfl, rfl⟩
theorem see_no2 {S : List (ByteArray × Int)} {E F : List Int} (h : edB S F = false) : seeB S E F = false ∧ ctR S E F = false := by unfold ctR seeB; rw [h, Bool.and_false]; exact ⟨rfl, rfl⟩
theorem see_yes {S : List (ByteArray × Int)} {E F : List Int} (h : seB S E = true) (k : edB S F = true) : seeB S E F = true ∧ ctR S E F = ctB E F := by unfold ctR seeB; rw [h, k]; exact ⟨rfl, rfl⟩
theorem see_get {S : List (ByteArray × Int)} {E F : List Int} (h : seeB S E F = true) : schB S = true ∧ edB S E = true ∧ edB S F = true := by
  unfold seeB at h
  rw [Bool.and_eq_true] at h
  exact ⟨(se_get h.1).1, (se_get h.1).2, h.2⟩
/-- Two edits side by side: small numbers. -/
theorem see_at {S : List (ByteArray × Int)} {E F : List Int} (hs : schB S = true) (hE : edB S E = true) (hF : edB S F = true) {i : Nat} (hi : i < S.length) : ∃ x y, E[i]? = some x ∧ F[i]? = some y ∧ 1 ≤ x ∧ x ≤ 255 ∧ 1 ≤ y ∧ y ≤ 255 := by
  obtain ⟨_, _, x, _, b, c, _, _, _, d⟩ := ed_at hs hE hi
  obtain ⟨_, _, y, _, b2, c2, _, _, _, d2⟩ := ed_at hs hF hi
  exact ⟨x, y, b, b2, c, d, c2, d2⟩

end Go.Proofs.YtgkaalonmkcclaaDoor

namespace Go.Proofs.YtgkaalonmkcclaaDoor
open Go.RowKit

/-- A schema with few lists of values, and a list of edits for it. -/
def smS (S : List (ByteArray × Int)) : Bool := schB S && decide (cnZ S ≤ 100)
def smB (S : List (ByteArray × Int)) (M : List (List Int)) : Bool := elB S M && decide (cnZ S ≤ 100)
theorem sm_no1 {S : List (ByteArray × Int)} {M : List (List Int)} (h : elB S M = false) : smB S M = false := by unfold smB; rw [h]; rfl
theorem sm_no2 {S : List (ByteArray × Int)} {M : List (List Int)} (h : ¬ cnZ S ≤ 100) : smB S M = false := by unfold smB; rw [decide_eq_false h, Bool.and_false]
theorem sm_yes {S : List (ByteArray × Int)} {M : List (List Int)} (h : elB S M = true) (k : cnZ S ≤ 100) : smB S M = true := by unfold smB; rw [h, decide_eq_true k]; rfl
theorem sm_get {S : List (ByteArray × Int)} {M : List (List Int)} (h : smB S M = true) : elB S M = true ∧ cnZ S ≤ 100 := by
  unfold smB at h
  simpa only [Bool.and_eq_true, decide_eq_true_eq] using h
theorem smS_no1 {S : List (ByteArray × Int)} (h : schB S = false) : smS S = false := by unfold smS; rw [h]; rfl
theorem smS_no2 {S : List (ByteArray × Int)} (h : ¬ cnZ S ≤ 100) : smS S = false := by unfold smS; rw [decide_eq_false h, Bool.and_false]
theorem smS_yes {S : List (ByteArray × Int)} (h : schB S = true) (k : cnZ S ≤ 100) : smS S = true := by unfold smS; rw [h, decide_eq_true k]; rfl
theorem smS_get {S : List (ByteArray × Int)} (h : smS S = true) : schB S = true ∧ cnZ S ≤ 100 := by
  unfold smS at h
  simpa only [Bool.and_eq_true, decide_eq_true_eq] using h
theorem sm_no3 {S : List (ByteArray × Int)} {M : List (List Int)} (h : smS S = false) : smB S M = false := by
  cases e : smB S M with
  | false => rfl
  | true =>
    obtain ⟨a, b⟩ := sm_get e
    rw [smS_yes (el_get a).1 b] at h
    cases h
theorem sm_both {S : List (ByteArray × Int)} {M : List (List Int)} (h : smS S = true) (k : elB S M = true) : smB S M = true := sm_yes k (smS_get h).2

/-- The union of two sets; the resolvent. -/
def joI (x y : Int) : Int := ((x.toNat ||| y.toNat : Nat) : Int)
theorem or_jo {x y : Int} (h0 : 0 ≤ x) (h1 : x ≤ 255) (h2 : 0 ≤ y) (h3 : y ≤ 255) : bits .or .i64 x y = joI x y := by
  obtain ⟨a, rfl⟩ := Int.eq_ofNat_of_zero_le h0
  obtain ⟨b, rfl⟩ := Int.eq_ofNat_of_zero_le h2
  rw [or64 (by omega) (by omega)]
  rfl
theorem jo_bd {x y lv : Int} (h0 : 1 ≤ x) (h1 : x ≤ flZ lv) (h2 : 1 ≤ y) (h3 : y ≤ flZ lv) : 1 ≤ joI x y ∧ joI x y ≤ flZ lv := by
  have a := flZ_lt (x := x) (by omega) h1
  have b := flZ_lt (x := y) (by omega) h3
  have c := Nat.or_lt_two_pow a b
  have d := Nat.left_le_or (n := x.toNat) (m := y.toNat)
  unfold joI
  refine ⟨by omega, ?_⟩
  have e : ((x.toNat ||| y.toNat : Nat) : Int) < ((2 ^ lv.toNat : Nat) : Int) := by exact_mod_cast c
  push_cast at e
  unfold flZ
  omega
def rvI (v : Int) (i : Nat) (x y : Int) : Int := if (i : Int) = v then joI x y else meI x y
def rvL (E F : List Int) (v : Int) : List Int := (List.range E.length).map fun i => rvI v i (E.getD i 0) (F.getD i 0)
theorem rvL_len (E F : List Int) (v : Int) : (rvL E F v).length = E.length := by unfold rvL; rw [List.length_map, List.length_range]
theorem rvL_at {E F : List Int} {v : Int} {i : Nat} {x y : Int} (h1 : E[i]? = some x) (h2 : F[i]? = some y) : (rvL E F v)[i]? = some (rvI v i x y) := by
  have hi := (List.getElem?_eq_some_iff.1 h1).1
  unfold rvL
  rw [List.getElem?_map, List.getElem?_range hi]
  simp [List.getD_eq_getElem?_getD, h1, h2]
theorem rvI_eq {v : Int} {i : Nat} {x y : Int} (h : (i : Int) = v) : rvI v i x y = joI x y := if_pos h
theorem rvI_ne {v : Int} {i : Nat} {x y : Int} (h : ¬ (i : Int) = v) : rvI v i x y = meI x y := if_neg h
def rvB (E F : List Int) (v : Int) : Bool := (rvL E F v).all fun z => decide (z ≠ 0)
theorem rvB_bad {E F : List Int} {v : Int} {i : Nat} {x y : Int} (h1 : E[i]? = some x) (h2 : F[i]? = some y) (h : rvI v i x y = 0) : rvB E F v = false := by
  unfold rvB
  rw [List.all_eq_false]
  exact ⟨_, List.mem_of_getElem? (rvL_at h1 h2), by simp [h]⟩
theorem rvB_all {E F : List Int} {v : Int} {n : Nat} (hl : E.length ≤ n) (h : ∀ j, j < n → ∃ x y, E[j]? = some x ∧ F[j]? = some y ∧ rvI v j x y ≠ 0) : rvB E F v = true := by
  unfold rvB
  rw [List.all_eq_true]
  intro z hz
  obtain ⟨j, hj, e⟩ := List.getElem_of_mem hz
  rw [rvL_len] at hj
  obtain ⟨x, y, h1, h2, h3⟩ := h j (by omega)
  have := rvL_at (v := v) h1 h2
  rw [List.getElem?_eq_getElem (by rw [rvL_len]; exact hj), e] at this
  injection this with this
  rw [this]
  exact decide_eq_true h3
theorem rv_bd {v : Int} {i : Nat} {x y lv : Int} (h0 : 1 ≤ x) (h1 : x ≤ flZ lv) (h2 : 1 ≤ y) (h3 : y ≤ flZ lv) : 0 ≤ rvI v i x y ∧ rvI v i x y ≤ flZ lv := by
  unfold rvI
  split
  · have := jo_bd h0 h1 h2 h3
    omega
  · have := me_bd (x := x) (y := y) (by omega)
    omega
theorem rv_ed {S : List (ByteArray × Int)} {E F : List Int} (v : Int) (hs : schB S = true) (hE : edB S E = true) (hF : edB S F = true) : edB S (rvL E F v) = rvB E F v := by
  have l1 := ed_len hE
  have l2 := ed_len hF
  have hl : (rvL E F v).length = S.length := by rw [rvL_len, l1]
  rw [Bool.eq_iff_iff]
  constructor
  · intro h
    unfold rvB
    rw [List.all_eq_true]
    intro z hz
    obtain ⟨j, hj, e⟩ := List.getElem_of_mem hz
    obtain ⟨nm, lv, x, a, b, c, _⟩ := ed_at hs h (i := j) (by omega)
    have : z = x := by have := List.getElem?_eq_getElem hj; rw [b, e] at this; cases this; rfl
    simp only [decide_eq_true_eq]
    omega
  · intro h
    unfold rvB at h
    rw [List.all_eq_true] at h
    refine ed_all hl fun j hj => ?_
    obtain ⟨nm, lv, x, a, b, c, d, _⟩ := ed_at hs hE (i := j) hj
    obtain ⟨nm2, lv2, y, a2, b2, c2, d2, _⟩ := ed_at hs hF (i := j) hj
    rw [a] at a2
    cases a2
    have hm := rvL_at (v := v) b b2
    have h1 := h _ (List.mem_of_getElem? hm)
    simp only [decide_eq_true_eq] at h1
    have h2 := rv_bd (v := v) (i := j) c d c2 d2
    exact ⟨nm, lv, _, a, hm, by omega, h2.2⟩
theorem rv_i64 {S : List (ByteArray × Int)} {E F : List Int} (v : Int) (hs : schB S = true) (hE : edB S E = true) (hF : edB S F = true) : ∀ n ∈ rvL E F v, IsI64 n := by
  intro n hn
  obtain ⟨j, hj, e⟩ := List.getElem_of_mem hn
  rw [rvL_len] at hj
  have l1 := ed_len hE
  obtain ⟨nm, lv, x, a, b, c, d, g1, g2, _⟩ := ed_at hs hE (i := j) (by omega)
  obtain ⟨nm2, lv2, y, a2, b2, c2, d2, _⟩ := ed_at hs hF (i := j) (by omega)
  rw [a] at a2
  cases a2
  have hm := rvL_at (v := v) b b2
  rw [List.getElem?_eq_getElem (by rw [rvL_len]; exact hj), e] at hm
  injection hm with hm
  have h2 := rv_bd (v := v) (i := j) c d c2 d2
  have h3 := flZ_bd ⟨g1, g2⟩
  rw [hm]
  unfold IsI64
  omega
/-- Is there a resolvent? -/
def rvR (S : List (ByteArray × Int)) (E F : List Int) (v : Int) : Bool := smB S [E, F] && decide (0 ≤ v ∧ v < S.length) && rvB E F v
theorem rvR_no1 {S : List (ByteArray × Int)} {E F : List Int} {v : Int} (h : smB S [E, F] = false) : rvR S E F v = false := by unfold rvR; rw [h]; rfl
theorem rvR_no2 {S : List (ByteArray × Int)} {E F : List Int} {v : Int} (h : ¬ (0 ≤ v ∧ v < S.length)) : rvR S E F v = false := by unfold rvR; rw [decide_eq_false h, Bool.and_false]; rfl
theorem rvR_no3 {S : List (ByteArray × Int)} {E F : List Int} {v : Int} (h : rvB E F v = false) : rvR S E F v = false := by unfold rvR; rw [h, Bool.and_false]
theorem rvR_yes {S : List (ByteArray × Int)} {E F : List Int} {v : Int} (h : smB S [E, F] = true) (k : 0 ≤ v ∧ v < S.length) (m : rvB E F v = true) : rvR S E F v = true := by unfold rvR; rw [h, decide_eq_true k, m]; rfl
theorem sm_two1 {S : List (ByteArray × Int)} {E F : List Int} (h : smS S = false) : smB S [E, F] = false := sm_no3 h
theorem sm_two2 {S : List (ByteArray × Int)} {E F : List Int} (h : seeB S E F = false) : smB S [E, F] = false := sm_no1 ((el_two S E F).trans h)
theorem sm_two3 {S : List (ByteArray × Int)} {E F : List Int} (h : smS S = true) (k : seeB S E F = true) : smB S [E, F] = true := sm_both h ((el_two S E F).trans k)

/-- The places, below n, of the lists of values that pass. -/
def psN (S : List (ByteArray × Int)) (M : List (List Int)) (n : Nat) : List Nat := (List.range n).filter fun i : Nat => !faB M (atL S i)
theorem psN_yes {S : List (ByteArray × Int)} {M : List (List Int)} {n : Nat} (h : faB M (atL S n) = false) : psN S M (n + 1) = psN S M n ++ [n] := by
  unfold psN
  rw [List.range_succ, List.filter_append]
  simp [h]
theorem psN_no {S : List (ByteArray × Int)} {M : List (List Int)} {n : Nat} (h : faB M (atL S n) = true) : psN S M (n + 1) = psN S M n := by
  unfold psN
  rw [List.range_succ, List.filter_append]
  simp [h]
theorem psN_mem {S : List (ByteArray × Int)} {M : List (List Int)} {n k : Nat} : k ∈ psN S M n ↔ k < n ∧ faB M (atL S k) = false := by
  unfold psN
  rw [List.mem_filter, List.mem_range]
  simp
theorem psN_len (S : List (ByteArray × Int)) (M : List (List Int)) (n : Nat) : (psN S M n).length = cpN S M n := rfl
/-- Is an edit implied? -/
def imV (S : List (ByteArray × Int)) (P : List Nat) (E : List Int) : Bool := P.all fun k => !fsB E (atL S k)
theorem imV_bad {S : List (ByteArray × Int)} {P : List Nat} {E : List Int} {k : Nat} (h : k ∈ P) (hf : fsB E (atL S k) = true) : imV S P E = false := by
  unfold imV
  rw [List.all_eq_false]
  exact ⟨k, h, by simp [hf]⟩
theorem imV_all {S : List (ByteArray × Int)} {P : List Nat} {E : List Int} (h : ∀ k ∈ P, fsB E (atL S k) = false) : imV S P E = true := by
  unfold imV
  rw [List.all_eq_true]
  intro k hk
  rw [h k hk]
  rfl
def imG (S : List (ByteArray × Int)) (M : List (List Int)) (E : List Int) : Bool := smB S M && edB S E
def imB (S : List (ByteArray × Int)) (M : List (List Int)) (E : List Int) : Bool := imG S M E && imV S (psN S M (cnZ S).toNat) E
theorem imG_no1 {S : List (ByteArray × Int)} {M : List (List Int)} {E : List Int} (h : smB S M = false) : imG S M E = false ∧ imB S M E = false := by unfold imB imG; rw [h]; exact ⟨rfl, rfl⟩
theorem imG_no2 {S : List (ByteArray × Int)} {M : List (List Int)} {E : List Int} (h : edB S E = false) : imG S M E = false ∧ imB S M E = false := by unfold imB imG; rw [h, Bool.and_false]; exact ⟨rfl, rfl⟩
theorem imG_yes {S : List (ByteArray × Int)} {M : List (List Int)} {E : List Int} (h : smB S M = true) (k : edB S E = true) : imG S M E = true ∧ imB S M E = imV S (psN S M (cnZ S).toNat) E := by unfold imB imG; rw [h, k]; exact ⟨rfl, rfl⟩
/-- Do all values fail? -/
def icB (S : List (ByteArray × Int)) (M : List (List Int)) : Bool := smB S M && decide (cpN S M (cnZ S).toNat = 0)
theorem icB_no {S : List (ByteArray × Int)} {M : List (List Int)} (h : smB S M = false) : icB S M = false := by unfold icB; rw [h]; rfl
theorem icB_yes {S : List (ByteArray × Int)} {M : List (List Int)} (h : smB S M = true) (k : cpN S M (cnZ S).toNat = 0) : icB S M = true := by unfold icB; rw [h, decide_eq_true k]; rfl
theorem icB_not {S : List (ByteArray × Int)} {M : List (List Int)} (k : 0 < cpN S M (cnZ S).toNat) : icB S M = false := by unfold icB; rw [decide_eq_false (by omega), Bool.and_false]

/-- Does the list of values at a place pass, and agree with others in some variables? -/
def agB (F V x : List Int) : Bool := F.all fun v => decide (x[v.toNat]? = V[v.toNat]?)
def coP (S : List (ByteArray × Int)) (M : List (List Int)) (F V : List Int) (k : Nat) : Bool := !faB M (atL S k) && agB F V (atL S k)
/-- The first place, below n, at which p holds. -/
def ftN (p : Nat → Bool) (n : Nat) : Option Nat := (List.range n).find? p
theorem ft_hit {p : Nat → Bool} {k : Nat} (h0 : ftN p k = none) (h : p k = true) : ∀ d, ftN p (k + 1 + d) = some k
  | 0 => by
    unfold ftN at *
    rw [Nat.add_zero, List.range_succ, List.find?_append, h0]
    simp [h]
  | d + 1 => by
    have e := ft_hit h0 h d
    unfold ftN at *
    rw [← Nat.add_assoc, List.range_succ, List.find?_append, e]
    rfl
theorem ft_found {p : Nat → Bool} {k n : Nat} (hk : k < n) (h0 : ftN p k = none) (h : p k = true) : ftN p n = some k := by
  obtain ⟨d, rfl⟩ : ∃ d, n = k + 1 + d := ⟨n - (k + 1), by omega⟩
  exact ft_hit h0 h d
theorem ft_next {p : Nat → Bool} {k : Nat} (h0 : ftN p k = none) (h : p k = false) : ftN p (k + 1) = none := by
  unfold ftN at *
  rw [List.range_succ, List.find?_append, h0]
  simp [h]
theorem ft_zero (p : Nat → Bool) : ftN p 0 = none := rfl
def coG (S : List (ByteArray × Int)) (M : List (List Int)) (F V : List Int) : Bool := smB S M && (F.all fun v => decide (0 ≤ v ∧ v < S.length)) && decide (F.Pairwise (· < ·)) && fitB S V
def coN (S : List (ByteArray × Int)) (M : List (List Int)) (F V : List Int) : Option Nat := ftN (coP S M F V) (cnZ S).toNat
def coB (S : List (ByteArray × Int)) (M : List (List Int)) (F V : List Int) : Bool := coG S M F V && (coN S M F V).isSome
def coL (S : List (ByteArray × Int)) (M : List (List Int)) (F V : List Int) : List Int := match coN S M F V with | some k => atL S k | none => []
end Go.Proofs.YtgkaalonmkcclaaDoor

namespace Go.Proofs.YtgkaalonmkcclaaDoor
open Go.RowKit Go.Shelf
set_option maxRecDepth 100000
attribute [local go_sem] Oper.semAt_some

def Kp2 (n₀ B1 B2 : Nat) (A B : World) : Prop := Below n₀ A B ∧ B.heap[B1]? = A.heap[B1]? ∧ B.heap[B2]? = A.heap[B2]?
theorem grown_belowE {w w' : World} (hb : Below w.heap.size w w') : w.grownBy w' none := ⟨hb.os, hb.tape, hb.output, hb.size, fun k hk _ => hb.block k hk⟩
end Go.Proofs.YtgkaalonmkcclaaDoor

namespace Go.Proofs.YtgkaalonmkcclaaDoor
open Go.RowKit Go.Shelf
set_option maxRecDepth 100000

/-- What an iterator's contract promises to a body that returns at once: it calls yield at most once, where J still holds and R x holds of the value. -/
def OneYield {β : Type} (P : Program) (gf : Nat) (lb : Array Value) (val : β → Value) (R : β → World → Prop) (Non : Prop) (w : World) : Prop :=
  ∀ (l : Nat) (J : World → Prop) (Jx : β → World → Prop) (W : World), Below w.heap.size w W → (∀ A B : World, J A → A.grownBy B none → J B) →
    (∀ x W1, J W1 → R x W1 → YieldAt Fence.wide 3 P l #[val x] W1 fun e W' => e = .returned (.bool false) ∧ Jx x W') → J W →
    CallsIn Fence.wide 4 P gf (#[.func (.yield l) #[] #[]] ++ lb) W fun e W' => (∃ v, e = .returned v) ∧ ((Non ∧ J W') ∨ ∃ x, Jx x W')

theorem range_first {β : Type} {P : Program} {g : Operand} {ps : Array Tmp} {assign body : Code} {Q : Exit → Act → World → Prop} {a : Act} {w w0 : World} {gf : Nat} {lb : Array Value}
    (hg : a.eval g = .func (.func gf) #[] lb) (eg : ∀ args w, (callFunc gf args).run P w = .ok (.enter gf args) w) (hps : ps.size = 1)
    (val : β → Value) (R : β → World → Prop) (hR : OwnFrom w.heap.size R) (Non : Prop) (hit : OneYield P gf lb val R Non w0) (hb0 : Below w0.heap.size w0 w)
    (I : Unit → World → Prop) (hI : OwnFrom w.heap.size I) (h0 : I () w) (X : β → World → Prop) (hX : OwnFrom w.heap.size X) (a₁ : β → Act)
    (hassign : ∀ (l : Nat) (x : β) (W : World) (K : Act → World → Prop), K (a₁ x) W →
      assign.wpIn (Fence.wide.inRound l) 3 P (Exit.then K (fun _ _ _ => False)) { tmps := (ps.zip #[val x]).foldl (fun t (p, v) => t.setIfInBounds p v) a.tmps, defers := [] } W)
    (hbody : ∀ (l : Nat) (x : β) (W : World), I () W → R x W → body.wpIn (Fence.wide.inRound l) 3 P (fun e _ W' => e = .ret ∧ KeepsFrom w.heap.size W W' ∧ X x W') (a₁ x) W)
    (hdone : ∀ W : World, Non → I () W → W.heap[w.heap.size]? = some (.deferred (some [])) → Q .normal { a with defers := { target := .collected w.heap.size, args := #[] } :: a.defers } W)
    (hstop : ∀ (x : β) (W : World), X x W → W.heap[w.heap.size]? = some (.deferred (some [])) → Code.ret.wpIn Fence.wide 5 P Q { a with defers := { target := .collected w.heap.size, args := #[] } :: a.defers } W) :
    (Code.rangeFunc g ps assign body).wpIn Fence.wide 5 P Q a w := by
  refine wpIn_rangeFunc ?_
  intro fn hfn
  rw [show Fence.wide.round = none from rfl]
  let r : LoopState → Option Code → Loop := fun st pe => { state := st, pending := pe, fn := fn, tmps := a.tmps, params := ps, assign := assign, body := body, defers := w.heap.size }
  let W1 := (w.alloc (.deferred (some []))).alloc (.loop (r .ready none))
  have hsz : (w.alloc (.deferred (some []))).heap.size = w.heap.size + 1 := World.size_alloc _ _
  have hL : W1.heap[w.heap.size + 1]? = some (.loop (r .ready none)) := by rw [← hsz]; exact World.alloc_heap_new _ _
  have hD : W1.heap[w.heap.size]? = some (.deferred (some [])) := (Below.heap_alloc _ _ _ (by omega)).trans (World.alloc_heap_new w _)
  have hIW : I () W1 := hI.alloc _ (hI.alloc _ h0)
  have hbW : Below w0.heap.size w0 W1 := hb0.trans (((Below.refl _ w).alloc (Nat.le_refl _) _ |>.alloc (by omega) _).mono hb0.size)
  refine ⟨w.heap.size + 1, [{ target := .collected w.heap.size, args := #[] }], W1, { target := .fn (.func gf) lb, args := #[.func (.yield (w.heap.size + 1)) #[] #[]] }, W1, gf, #[.func (.yield (w.heap.size + 1)) #[] #[]] ++ lb, W1, run_enterLoop_outer _ _ _ _ _, ?_, fun _ _ => trivial, ?_, fun _ => by omega, ?_⟩
  · simp only [resolve, hg]
    simp [go_sem]
  · simp [invoke, go_sem, eg]
  refine (hit (w.heap.size + 1) (fun W => I () W ∧ W.heap[w.heap.size + 1]? = some (.loop (r .ready none)) ∧ W.heap[w.heap.size]? = some (.deferred (some [])))
    (fun x W => X x W ∧ W.heap[w.heap.size + 1]? = some (.loop (r .done (some .ret))) ∧ W.heap[w.heap.size]? = some (.deferred (some []))) W1 hbW ?_ ?_ ⟨hIW, hL, hD⟩).mono ?_
  · rintro A B ⟨i, l, d⟩ hgr
    exact ⟨hI () A B none i hgr (by intro k hk; cases hk), (hgr.block _ (Array.getElem?_eq_some_iff.1 l).1 (by intro h; cases h)).trans l, (hgr.block _ (Array.getElem?_eq_some_iff.1 d).1 (by intro h; cases h)).trans d⟩
  · rintro x W ⟨i, l, d⟩ hr
    refine ⟨fn, _, assign, body, run_yield (args := #[val x]) l (by show 1 = ps.size; omega), roundIn_of_wpIn hfn (hassign _ x W _ ?_)⟩
    have hlt := (Array.getElem?_eq_some_iff.1 l).1
    refine ⟨_, run_beginRound l rfl, ?_⟩
    have l2 : (W.putObj (w.heap.size + 1) (.loop (r .busy none))).heap[w.heap.size + 1]? = some (.loop (r .busy none)) := World.putObj_heap_same hlt
    have d2 : (W.putObj (w.heap.size + 1) (.loop (r .busy none))).heap[w.heap.size]? = some (.deferred (some [])) := (World.putObj_heap_other (by omega)).trans d
    refine wpIn_mono (hbody _ x _ (hI.putObj _ i (by omega) l rfl) (hR.putObj _ hr (by omega) l rfl)) ?_
    rintro e a3 W3 ⟨rfl, hk, hx⟩
    have l3 := hk.same _ _ (by omega) l2 rfl
    have d3 := hk.same _ _ (Nat.le_refl _) d2 rfl
    exact ⟨_, _, run_endRound (some .ret) l3, rfl, hX.putObj _ hx (by omega) l3 rfl, World.putObj_heap_same (Array.getElem?_eq_some_iff.1 l3).1, (World.putObj_heap_other (by omega)).trans d3⟩
  · rintro e W2 ⟨⟨v, rfl⟩, ⟨hn, i, l, d⟩ | ⟨x, hx, l, d⟩⟩
    · exact ⟨none, _, run_endLoop l (by intro h; cases h), hdone _ hn (hI.putObj _ i (by omega) l rfl) ((World.putObj_heap_other (by omega)).trans d)⟩
    · exact ⟨some .ret, _, run_endLoop l (by intro h; cases h), hstop x _ (hX.putObj _ hx (by omega) l rfl) ((World.putObj_heap_other (by omega)).trans d)⟩
end Go.Proofs.YtgkaalonmkcclaaDoor

namespace Go.Proofs.YtgkaalonmkcclaaDoor
open Go.RowKit Go.Shelf
set_option maxRecDepth 100000
attribute [local go_sem] Oper.semAt_some

/-- What holds of a list of values (with its place) that is handed to the loop's body. -/
def PvR (S : List (ByteArray × Int)) (M : List (List Int)) (n₀ N : Nat) (x : Value × Nat) (W : World) : Prop :=
  (x.2 < N ∧ cpN S M x.2 = 0 ∧ faB M (atL S x.2) = false) ∧ W.ownsRow n₀ 3 1 x.1 (atL S x.2).length (iC (atL S x.2))
/-- The two result variables' boxes, as they are laid at the beginning. -/
def ResB (n : Nat) (v : Value) (b : Bool) (W : World) : Prop := Boxed W n 22 v ∧ Boxed W (n + 1) 4 (.bool b)
theorem resB_new (w : World) : ResB w.heap.size (.slice none 0 0) false ((w.alloc (.cells #[.slice none 0 0] 22)).alloc (.cells #[.bool false] 4)) := by
  refine ⟨(Boxed.new w 22 _).alloc _, ?_⟩
  have := Boxed.new (w.alloc (.cells #[.slice none 0 0] 22)) 4 (.bool false)
  rwa [World.size_alloc] at this
theorem ResB.below {n : Nat} {v : Value} {b : Bool} {w W : World} (h : ResB n v b w) (hb : Below w.heap.size w W) : ResB n v b W := ⟨(hb.block _ h.1.lt).trans h.1, (hb.block _ h.2.lt).trans h.2⟩
theorem ResB.set {n : Nat} {v v0 : Value} {b b0 : Bool} {W : World} (h : ResB n v0 b0 W) : ResB n v b ((W.setCell ⟨n, 0, none⟩ v).setCell ⟨n + 1, 0, none⟩ (.bool b)) :=
  ⟨(h.1.set v).other (by omega) _, (h.2.other (by omega) v).set (.bool b)⟩
theorem resB_to {n : Nat} {v : Value} {b : Bool} {w W : World} (hb : Below w.heap.size w W) (hn : w.heap.size ≤ n) : Below w.heap.size w ((W.setCell ⟨n, 0, none⟩ v).setCell ⟨n + 1, 0, none⟩ (.bool b)) :=
  (hb.setCell (p := ⟨n, 0, none⟩) hn v).setCell (p := ⟨n + 1, 0, none⟩) (by show w.heap.size ≤ n + 1; omega) _
theorem ResB.put {n l : Nat} {v : Value} {b : Bool} {W : World} {o : Obj} (h : ResB n v b W) (o' : Obj) (hl : W.heap[l]? = some o) (ho : o.isCells = false) : ResB n v b (W.putObj l o') := by
  have hne : ∀ k c t z, W.heap[k]? = some (.cells c t z) → k ≠ l := by
    rintro k c t z hk rfl
    rw [hk] at hl
    cases hl
    cases ho
  exact ⟨(World.putObj_heap_other (hne _ _ _ _ h.1)).trans h.1, (World.putObj_heap_other (hne _ _ _ _ h.2)).trans h.2⟩
theorem own_cells {X Y : World} {row : Option Nat} {n₀ e size n : Nat} {v : Value} {xs : List Value} (h : X.ownsRow n₀ e size v n xs) (hg : X.grownBy Y row) (hrow : ∀ r, row = some r → ∃ o : Obj, X.heap[r]? = some o ∧ o.isCells = false) : Y.ownsRow n₀ e size v n xs := by
  refine h.kept hg ?_
  rcases h.2 with ⟨rfl, _⟩ | ⟨g, cap, cur, rfl, _, hgb, _⟩
  · exact .inl rfl
  · refine .inr fun e' => ?_
    obtain ⟨o, ho, hc⟩ := hrow g (by simpa [Value.ownBlock] using e'.symm)
    rw [hgb] at ho
    cases ho
    cases hc
theorem pvR_own (S : List (ByteArray × Int)) (M : List (List Int)) (n₀ N : Nat) : Own (PvR S M n₀ N) := fun _ _ _ _ h hg hr => ⟨h.1, own_cells h.2 hg hr⟩
theorem resB_own {β : Type} (n : Nat) (f : β → Value) (b : Bool) : Own (fun s W => ResB n (f s) b W) := fun s A B row h hg hr =>
  ⟨boxed_own n 22 f s A B row h.1 hg hr, boxed_own (n + 1) 4 (fun _ => .bool b) s A B row h.2 hg hr⟩
theorem pvR_set {S : List (ByteArray × Int)} {M : List (List Int)} {n₀ N n : Nat} {x : Value × Nat} {W : World} {v v0 : Value} {b b0 : Bool} (h : PvR S M n₀ N x W) (r : ResB n v0 b0 W) : PvR S M n₀ N x ((W.setCell ⟨n, 0, none⟩ v).setCell ⟨n + 1, 0, none⟩ (.bool b)) := by
  have h1 := h.2.kept (grownBy_setCell' W n v) (.inr (Ne.symm (r.1.not_row (by decide) h.2)))
  have r2 := r.2.other (by omega) (B' := n) v
  exact ⟨h.1, h1.kept (grownBy_setCell' _ (n + 1) (.bool b)) (.inr (Ne.symm (r2.not_row (by decide) h1)))⟩
end Go.Proofs.YtgkaalonmkcclaaDoor
