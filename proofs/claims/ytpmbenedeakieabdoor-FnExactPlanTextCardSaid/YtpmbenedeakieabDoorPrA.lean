import Derived.Test.YtpmbenedeakieabDoorPrE
import Derived.Test.YtpmbenedeakieabDoorAtK
import Derived.Test.YtpmbenedeakieabDoorEdH
namespace Go.Proofs.YtpmbenedeakieabDoor
open Go.RowKit
set_option maxRecDepth 100000

/-- Does any edit of a list fail? How many of the first n lists of values pass? -/
def faB (M : List (List Int)) (V : List Int) : Bool := M.any fun E => fsB E V
theorem fa_hit {M : List (List Int)} {V E : List Int} {i : Nat} (h : M[i]? = some E) (k : fsB E V = true) : faB M V = true := by
  unfold faB
  rw [List.any_eq_true]
  exact ⟨E, List.mem_of_getElem? h, k⟩
theorem fa_none {M : List (List Int)} {V : List Int} (h : ∀ j, j < M.length → ∃ E, M[j]? = some E ∧ fsB E V = false) : faB M V = false := by
  unfold faB
  rw [List.any_eq_false]
  intro E hE
  obtain ⟨j, hj, e⟩ := List.getElem_of_mem hE
  obtain ⟨F, h1, h2⟩ := h j hj
  rw [List.getElem?_eq_getElem hj, e] at h1
  cases h1
  rw [h2]
  exact Bool.false_ne_true
theorem fe_none {M : List (List Int)} {V : List Int} : ((feL M V).length = 0) ↔ faB M V = false := by
  unfold feL feUp pkUp faB
  rw [List.length_map, List.length_eq_zero_iff, List.filter_eq_nil_iff, List.any_eq_false]
  constructor
  · intro h E hE
    obtain ⟨j, hj, e⟩ := List.getElem_of_mem hE
    have := h j (List.mem_range.2 hj)
    rwa [fe_at (List.getElem?_eq_getElem hj), e] at this
  · intro h j hj
    have hj := List.mem_range.1 hj
    rw [fe_at (List.getElem?_eq_getElem hj)]
    exact h _ (List.getElem_mem hj)
def cpN (S : List (ByteArray × Int)) (M : List (List Int)) (n : Nat) : Nat := ((List.range n).filter fun i : Nat => !faB M (atL S i)).length
theorem cpN_zero (S : List (ByteArray × Int)) (M : List (List Int)) : cpN S M 0 = 0 := rfl
theorem cpN_yes {S : List (ByteArray × Int)} {M : List (List Int)} {n : Nat} (h : faB M (atL S n) = false) : cpN S M (n + 1) = cpN S M n + 1 := by
  unfold cpN
  rw [List.range_succ, List.filter_append]
  simp [h]
theorem cpN_no {S : List (ByteArray × Int)} {M : List (List Int)} {n : Nat} (h : faB M (atL S n) = true) : cpN S M (n + 1) = cpN S M n := by
  unfold cpN
  rw [List.range_succ, List.filter_append]
  simp [h]
theorem cpN_le (S : List (ByteArray × Int)) (M : List (List Int)) (n : Nat) : cpN S M n ≤ n := by
  unfold cpN
  exact Nat.le_trans (List.length_filter_le _ _) (by simp)
/-- A schema, a list of edits, and not too many lists of values. -/
def cpB (S : List (ByteArray × Int)) (M : List (List Int)) : Bool := elB S M && decide (cnZ S ≤ 20000)
theorem cp_no1 {S : List (ByteArray × Int)} {M : List (List Int)} (h : elB S M = false) : cpB S M = false := by unfold cpB; rw [h]; rfl
theorem cp_no2 {S : List (ByteArray × Int)} {M : List (List Int)} (h : 20000 < cnZ S) : cpB S M = false := by unfold cpB; rw [decide_eq_false (by omega), Bool.and_false]
theorem cp_yes {S : List (ByteArray × Int)} {M : List (List Int)} (h : elB S M = true) (k : ¬ 20000 < cnZ S) : cpB S M = true := by unfold cpB; rw [h, decide_eq_true (by omega)]; rfl
theorem at_digE {S : List (ByteArray × Int)} (i : Int) {m : Nat} (hm : m < S.length) : ∀ d j, j + d = m → (atF S i j).2[m]? = some ((atF S i (m + 1)).1 % lvA S m)
  | 0, j, h => by
    obtain rfl : j = m := by omega
    rw [atF_step i hm]
    unfold atStp
    simp only
    rw [List.getElem?_set_self]
    have := atFr_len S i (cmL S.length (j + 1))
    unfold atF
    omega
  | d + 1, j, h => by
    rw [atF_step i (show j < S.length by omega)]
    unfold atStp
    simp only
    rw [List.getElem?_set_ne (by omega)]
    exact at_digE i hm d (j + 1) (by omega)
theorem at_fitE {S : List (ByteArray × Int)} (hs : schB S = true) {i : Int} (h0 : 0 ≤ i) : fitB S (atL S i) = true := by
  refine fit_all (atL_len S i) (fun j hj => ?_)
  obtain ⟨l1, l2⟩ := lvA_bd hs hj
  have p := (atFr_bd hs h0 (cmL S.length (j + 1)) (fun k hk => cmL_lt hk)).1
  exact ⟨_, _, _, at_nm hj, at_digE (S := S) i hj j 0 (by omega), Int.emod_nonneg _ (by omega), Int.emod_lt_of_pos _ (by omega)⟩
theorem atL_iin {w : World} {u : Option Addr} {S : List (ByteArray × Int)} (hs : schB S = true) {i : Int} (h0 : 0 ≤ i) (hr : Rd w u (iC (atL S i))) : IIn w u (atL S i) := by
  have hf := at_fitE hs h0
  have hl := fit_len hf
  have h6 := (schB_len hs).2
  refine ⟨by omega, fun n hn => ?_, hr⟩
  obtain ⟨j, hj, e⟩ := List.getElem_of_mem hn
  have h1 : S[j]? = some ((S[j]'(by omega)).1, (S[j]'(by omega)).2) := List.getElem?_eq_getElem (by omega)
  have h2 := List.getElem?_eq_getElem hj
  have h3 := fit_get hf h1 h2
  have h4 := schB_lv hs h1
  rw [e] at h3
  unfold IsI64
  omega
/-- What the model's search gives: the number, and some slice. -/
def EpPost (S : List (ByteArray × Int)) (M : List (List Int)) (w : World) (e : Ending) (w' : World) : Prop := ∃ u, e = .returned (.tuple #[.int .i64 (cpN S M (cnZ S).toNat), u]) ∧ Below w.heap.size w w'
end Go.Proofs.YtpmbenedeakieabDoor

namespace Go.Proofs.YtpmbenedeakieabDoor
open Go.RowKit
set_option maxRecDepth 100000

/-- The first list of values, among the first n, that passes. -/
def fpN (S : List (ByteArray × Int)) (M : List (List Int)) : Nat → List Int
  | 0 => []
  | k + 1 => if cpN S M k = 0 ∧ faB M (atL S k) = false then atL S k else fpN S M k
section
variable {S : List (ByteArray × Int)} {M : List (List Int)} {k : Nat}
theorem fp_hit (h : faB M (atL S k) = false) (h0 : cpN S M k = 0) : fpN S M (k + 1) = atL S k := if_pos ⟨h0, h⟩
theorem fp_no (h : faB M (atL S k) = true) : fpN S M (k + 1) = fpN S M k := if_neg (by rw [h]; simp)
theorem fp_old (h0 : ¬ cpN S M k = 0) : fpN S M (k + 1) = fpN S M k := if_neg (fun h => h0 h.1)
theorem cp_up : cpN S M k ≤ cpN S M (k + 1) := by
  cases h : faB M (atL S k)
  · rw [cpN_yes h]; omega
  · rw [cpN_no h]; exact Nat.le_refl _
theorem fp_nil : ∀ {k : Nat}, cpN S M k = 0 → fpN S M k = []
  | 0, _ => rfl
  | k + 1, h => by
    have h1 := cp_up (S := S) (M := M) (k := k)
    have h2 : cpN S M k = 0 := by omega
    cases hf : faB M (atL S k)
    · rw [cpN_yes hf] at h; omega
    · rw [fp_no hf]; exact fp_nil h2
theorem fp_stay (h0 : 0 < cpN S M k) : ∀ d, fpN S M (k + d) = fpN S M k ∧ 0 < cpN S M (k + d)
  | 0 => ⟨rfl, h0⟩
  | d + 1 => by
    obtain ⟨a, b⟩ := fp_stay h0 d
    have h1 := cp_up (S := S) (M := M) (k := k + d)
    exact ⟨(fp_old (k := k + d) (by omega)).trans a, by show 0 < cpN S M (k + d + 1); omega⟩
theorem fp_found {N : Nat} (hk : k < N) (h : faB M (atL S k) = false) (h0 : cpN S M k = 0) : fpN S M N = atL S k ∧ 0 < cpN S M N := by
  obtain ⟨d, rfl⟩ : ∃ d, N = k + 1 + d := ⟨N - (k + 1), by omega⟩
  obtain ⟨a, b⟩ := fp_stay (S := S) (M := M) (k := k + 1) (by rw [cpN_yes h]; omega) d
  exact ⟨a.trans (fp_hit h h0), b⟩
theorem fp_len : ∀ k : Nat, (fpN S M k).length ≤ S.length
  | 0 => Nat.zero_le _
  | k + 1 => by
    unfold fpN
    by_cases h : cpN S M k = 0 ∧ faB M (atL S k) = false
    · rw [if_pos h, atL_len]; exact Nat.le_refl _
    · rw [if_neg h]; exact fp_len k
end
def fpB (S : List (ByteArray × Int)) (M : List (List Int)) : Bool := cpB S M && decide (0 < cpN S M (cnZ S).toNat)
def fpL (S : List (ByteArray × Int)) (M : List (List Int)) : List Int := fpN S M (cnZ S).toNat
theorem fpB_no {S : List (ByteArray × Int)} {M : List (List Int)} (h : cpB S M = false) : fpB S M = false := by unfold fpB; rw [h]; rfl
theorem fpB_zero {S : List (ByteArray × Int)} {M : List (List Int)} (h : cpN S M (cnZ S).toNat = 0) : fpB S M = false := by unfold fpB; rw [decide_eq_false (by omega), Bool.and_false]
theorem fpB_yes {S : List (ByteArray × Int)} {M : List (List Int)} (h : cpB S M = true) (k : 0 < cpN S M (cnZ S).toNat) : fpB S M = true := by unfold fpB; rw [h, decide_eq_true k]; rfl
theorem retLB_dec {L : List Int} {b d : Bool} {w w' : World} {v : Value} (hd : d = b) (ho : w'.ownsRow w.heap.size 3 1 v (eIf b L).length (iC (eIf b L))) (h : Below w.heap.size w w') : RetLB (eIf b L) b w (.returned (.tuple #[v, .bool d])) w' := by
  subst hd
  exact ⟨_, rfl, ho, h⟩
def EpRow (S : List (ByteArray × Int)) (M : List (List Int)) (w : World) (e : Ending) (w' : World) : Prop :=
  ∃ u, e = .returned (.tuple #[.int .i64 (cpN S M (cnZ S).toNat), u]) ∧ w'.ownsRow w.heap.size 3 1 u (fpN S M (cnZ S).toNat).length (iC (fpN S M (cnZ S).toNat)) ∧ Below w.heap.size w w'
end Go.Proofs.YtpmbenedeakieabDoor

namespace Go.Proofs.YtpmbenedeakieabDoor
open Go.RowKit
set_option maxRecDepth 100000

/-- Two edits for a schema. -/
def seeB (S : List (ByteArray × Int)) (E F : List Int) : Bool := seB S E && edB S F
def ctR (S : List (ByteArray × Int)) (E F : List Int) : Bool := seeB S E F && ctB E F
theorem see_no1 {S : List (ByteArray × Int)} {E F : List Int} (h : seB S E = false) : seeB S E F = false ∧ ctR S E F = false := by unfold ctR seeB; rw [h]; exact ⟨rfl, rfl⟩
theorem see_no2 {S : List (ByteArray × Int)} {E F : List Int} (h : edB S F = false) : seeB S E F = false ∧ ctR S E F = false := by unfold ctR seeB; rw [h, Bool.and_false]; exact ⟨rfl, rfl⟩
theorem see_yes {S : List (ByteArray × Int)} {E F : List Int} (h : seB S E = true) (k : edB S F = true) : seeB S E F = true ∧ ctR S E F = ctB E F := by unfold ctR seeB; rw [h, k]; exact ⟨rfl, rfl⟩
theorem see_get {S : List (ByteArray × Int)} {E F : List Int} (h : seeB S E F = true) : schB S = true ∧ edB S E = true ∧ edB S F = true := by
  unfold seeB at h
  rw [Bool.and_eq_true] at h
  exact ⟨(se_get h.1).1, (se_get h.1).2, h.2⟩
/-- Two edits side by side: small numbers. -/
theorem see_at {S : List (ByteArray × Int)} {E F : List Int} (hs : schB S = true) (hE : edB S E = true) (hF : edB S F = true) {i : Nat} (hi : i < S.length) : ∃ x y, E[i]? = some x ∧ F[i]? = some y ∧ 1 ≤ x ∧ x ≤ 255 ∧ 1 ≤ y ∧ y ≤ 255 := by
  obtain ⟨_, _, x, _, b, c, _, _, _, d⟩ := ed_at hs hE hi
  obtain ⟨_, _, y, _, b2, c2, _, _, _, d2⟩ := ed_at hs hF hi
  exact ⟨x, y, b, b2, c, d, c2, d2⟩

end Go.Proofs.YtpmbenedeakieabDoor

namespace Go.Proofs.YtpmbenedeakieabDoor
open Go.RowKit

/-- A schema with few lists of values, and a list of edits for it. -/
def smS (S : List (ByteArray × Int)) : Bool := schB S && decide (cnZ S ≤ 100)
def smB (S : List (ByteArray × Int)) (M : List (List Int)) : Bool := elB S M && decide (cnZ S ≤ 100)
theorem sm_no1 {S : List (ByteArray × Int)} {M : List (List Int)} (h : elB S M = false) : smB S M = false := by unfold smB; rw [h]; rfl
theorem sm_no2 {S : List (ByteArray × Int)} {M : List (List Int)} (h : ¬ cnZ S ≤ 100) : smB S M = false := by unfold smB; rw [decide_eq_false h, Bool.and_false]
theorem sm_yes {S : List (ByteArray × Int)} {M : List (List Int)} (h : elB S M = true) (k : cnZ S ≤ 100) : smB S M = true := by unfold smB; rw [h, decide_eq_true k]; rfl
theorem sm_get {S : List (ByteArray × Int)} {M : List (List Int)} (h : smB S M = true) : elB S M = true ∧ cnZ S ≤ 100 := by
  unfold smB at h
  simpa only [Bool.and_eq_true, decide_eq_true_eq] using h
theorem smS_no1 {S : List (ByteArray × Int)} (h : schB S = false) : smS S = false := by unfold smS; rw [h]; rfl
theorem smS_no2 {S : List (ByteArray × Int)} (h : ¬ cnZ S ≤ 100) : smS S = false := by unfold smS; rw [decide_eq_false h, Bool.and_false]
theorem smS_yes {S : List (ByteArray × Int)} (h : schB S = true) (k : cnZ S ≤ 100) : smS S = true := by unfold smS; rw [h, decide_eq_true k]; rfl
theorem smS_get {S : List (ByteArray × Int)} (h : smS S = true) : schB S = true ∧ cnZ S ≤ 100 := by
  unfold smS at h
  simpa only [Bool.and_eq_true, decide_eq_true_eq] using h
theorem sm_no3 {S : List (ByteArray × Int)} {M : List (List Int)} (h : smS S = false) : smB S M = false := by
  cases e : smB S M with
  | false => rfl
  | true =>
    obtain ⟨a, b⟩ := sm_get e
    rw [smS_yes (el_get a).1 b] at h
    cases h
theorem sm_both {S : List (ByteArray × Int)} {M : List (List Int)} (h : smS S = true) (k : elB S M = true) : smB S M = true := sm_yes k (smS_get h).2

/-- The union of two sets; the resolvent. -/
def joI (x y : Int) : Int := ((x.toNat ||| y.toNat : Nat) : Int)
theorem or_jo {x y : Int} (h0 : 0 ≤ x) (h1 : x ≤ 255) (h2 : 0 ≤ y) (h3 : y ≤ 255) : bits .or .i64 x y = joI x y := by
  obtain ⟨a, rfl⟩ := Int.eq_ofNat_of_zero_le h0
  obtain ⟨b, rfl⟩ := Int.eq_ofNat_of_zero_le h2
  rw [or64 (by omega) (by omega)]
  rfl
theorem jo_bd {x y lv : Int} (h0 : 1 ≤ x) (h1 : x ≤ flZ lv) (h2 : 1 ≤ y) (h3 : y ≤ flZ lv) : 1 ≤ joI x y ∧ joI x y ≤ flZ lv := by
  have a := flZ_lt (x := x) (by omega) h1
  have b := flZ_lt (x := y) (by omega) h3
  have c := Nat.or_lt_two_pow a b
  have d := Nat.left_le_or (n := x.toNat) (m := y.toNat)
  unfold joI
  refine ⟨by omega, ?_⟩
  have e : ((x.toNat ||| y.toNat : Nat) : Int) < ((2 ^ lv.toNat : Nat) : Int) := by exact_mod_cast c
  push_cast at e
  unfold flZ
  omega
def rvI (v : Int) (i : Nat) (x y : Int) : Int := if (i : Int) = v then joI x y else meI x y
def rvL (E F : List Int) (v : Int) : List Int := (List.range E.length).map fun i => rvI v i (E.getD i 0) (F.getD i 0)
theorem rvL_len (E F : List Int) (v : Int) : (rvL E F v).length = E.length := by unfold rvL; rw [List.length_map, List.length_range]
theorem rvL_at {E F : List Int} {v : Int} {i : Nat} {x y : Int} (h1 : E[i]? = some x) (h2 : F[i]? = some y) : (rvL E F v)[i]? = some (rvI v i x y) := by
  have hi := (List.getElem?_eq_some_iff.1 h1).1
  unfold rvL
  rw [List.getElem?_map, List.getElem?_range hi]
  simp [List.getD_eq_getElem?_getD, h1, h2]
theorem rvI_eq {v : Int} {i : Nat} {x y : Int} (h : (i : Int) = v) : rvI v i x y = joI x y := if_pos h
theorem rvI_ne {v : Int} {i : Nat} {x y : Int} (h : ¬ (i : Int) = v) : rvI v i x y = meI x y := if_neg h
def rvB (E F : List Int) (v : Int) : Bool := (rvL E F v).all fun z => decide (z ≠ 0)
theorem rvB_bad {E F : List Int} {v : Int} {i : Nat} {x y : Int} (h1 : E[i]? = some x) (h2 : F[i]? = some y) (h : rvI v i x y = 0) : rvB E F v = false := by
  unfold rvB
  rw [List.all_eq_false]
  exact ⟨_, List.mem_of_getElem? (rvL_at h1 h2), by simp [h]⟩
theorem rvB_all {E F : List Int} {v : Int} {n : Nat} (hl : E.length ≤ n) (h : ∀ j, j < n → ∃ x y, E[j]? = some x ∧ F[j]? = some y ∧ rvI v j x y ≠ 0) : rvB E F v = true := by
  unfold rvB
  rw [List.all_eq_true]
  intro z hz
  obtain ⟨j, hj, e⟩ := List.getElem_of_mem hz
  rw [rvL_len] at hj
  obtain ⟨x, y, h1, h2, h3⟩ := h j (by omega)
  have := rvL_at (v := v) h1 h2
  rw [List.getElem?_eq_getElem (by rw [rvL_len]; exact hj), e] at this
  injection this with this
  rw [this]
  exact decide_eq_true h3
theorem rv_bd {v : Int} {i : Nat} {x y lv : Int} (h0 : 1 ≤ x) (h1 : x ≤ flZ lv) (h2 : 1 ≤ y) (h3 : y ≤ flZ lv) : 0 ≤ rvI v i x y ∧ rvI v i x y ≤ flZ lv := by
  unfold rvI
  split
  · have := jo_bd h0 h1 h2 h3
    omega
  · have := me_bd (x := x) (y := y) (by omega)
    omega
theorem rv_ed {S : List (ByteArray × Int)} {E F : List Int} (v : Int) (hs : schB S = true) (hE : edB S E = true) (hF : edB S F = true) : edB S (rvL E F v) = rvB E F v := by
  have l1 := ed_len hE
  have l2 := ed_len hF
  have hl : (rvL E F v).length = S.length := by rw [rvL_len, l1]
  rw [Bool.eq_iff_iff]
  constructor
  · intro h
    unfold rvB
    rw [List.all_eq_true]
    intro z hz
    obtain ⟨j, hj, e⟩ := List.getElem_of_mem hz
    obtain ⟨nm, lv, x, a, b, c, _⟩ := ed_at hs h (i := j) (by omega)
    have : z = x := by have := List.getElem?_eq_getElem hj; rw [b, e] at this; cases this; rfl
    simp only [decide_eq_true_eq]
    omega
  · intro h
    unfold rvB at h
    rw [List.all_eq_true] at h
    refine ed_all hl fun j hj => ?_
    obtain ⟨nm, lv, x, a, b, c, d, _⟩ := ed_at hs hE (i := j) hj
    obtain ⟨nm2, lv2, y, a2, b2, c2, d2, _⟩ := ed_at hs hF (i := j) hj
    rw [a] at a2
    cases a2
    have hm := rvL_at (v := v) b b2
    have h1 := h _ (List.mem_of_getElem? hm)
    simp only [decide_eq_true_eq] at h1
    have h2 := rv_bd (v := v) (i := j) c d c2 d2
    exact ⟨nm, lv, _, a, hm, by omega, h2.2⟩
theorem rv_i64 {S : List (ByteArray × Int)} {E F : List Int} (v : Int) (hs : schB S = true) (hE : edB S E = true) (hF : edB S F = true) : ∀ n ∈ rvL E F v, IsI64 n := by
  intro n hn
  obtain ⟨j, hj, e⟩ := List.getElem_of_mem hn
  rw [rvL_len] at hj
  have l1 := ed_len hE
  obtain ⟨nm, lv, x, a, b, c, d, g1, g2, _⟩ := ed_at hs hE (i := j) (by omega)
  obtain ⟨nm2, lv2, y, a2, b2, c2, d2, _⟩ := ed_at hs hF (i := j) (by omega)
  rw [a] at a2
  cases a2
  have hm := rvL_at (v := v) b b2
  rw [List.getElem?_eq_getElem (by rw [rvL_len]; exact hj), e] at hm
  injection hm with hm
  have h2 := rv_bd (v := v) (i := j) c d c2 d2
  have h3 := flZ_bd ⟨g1, g2⟩
  rw [hm]
  unfold IsI64
  omega
/-- Is there a resolvent? -/
def rvR (S : List (ByteArray × Int)) (E F : List Int) (v : Int) : Bool := smB S [E, F] && decide (0 ≤ v ∧ v < S.length) && rvB E F v
theorem rvR_no1 {S : List (ByteArray × Int)} {E F : List Int} {v : Int} (h : smB S [E, F] = false) : rvR S E F v = false := by unfold rvR; rw [h]; rfl
theorem rvR_no2 {S : List (ByteArray × Int)} {E F : List Int} {v : Int} (h : ¬ (0 ≤ v ∧ v < S.length)) : rvR S E F v = false := by unfold rvR; rw [decide_eq_false h, Bool.and_false]; rfl
theorem rvR_no3 {S : List (ByteArray × Int)} {E F : List Int} {v : Int} (h : rvB E F v = false) : rvR S E F v = false := by unfold rvR; rw [h, Bool.and_false]
theorem rvR_yes {S : List (ByteArray × Int)} {E F : List Int} {v : Int} (h : smB S [E, F] = true) (k : 0 ≤ v ∧ v < S.length) (m : rvB E F v = true) : rvR S E F v = true := by unfold rvR; rw [h, decide_eq_true k, m]; rfl
theorem sm_two1 {S : List (ByteArray × Int)} {E F : List Int} (h : smS S = false) : smB S [E, F] = false := sm_no3 h
theorem sm_two2 {S : List (ByteArray × Int)} {E F : List Int} (h : seeB S E F = false) : smB S [E, F] = false := sm_no1 ((el_two S E F).trans h)
theorem sm_two3 {S : List (ByteArray × Int)} {E F : List Int} (h : smS S = true) (k : seeB S E F = true) : smB S [E, F] = true := sm_both h ((el_two S E F).trans k)

/-- The places, below n, of the lists of values that pass. -/
def psN (S : List (ByteArray × Int)) (M : List (List Int)) (n : Nat) : List Nat := (List.range n).filter fun i : Nat => !faB M (atL S i)
theorem psN_yes {S : List (ByteArray × Int)} {M : List (List Int)} {n : Nat} (h : faB M (atL S n) = false) : psN S M (n + 1) = psN S M n ++ [n] := by
  unfold psN
  rw [List.range_succ, List.filter_append]
  simp [h]
theorem psN_no {S : List (ByteArray × Int)} {M : List (List Int)} {n : Nat} (h : faB M (atL S n) = true) : psN S M (n + 1) = psN S M n := by
  unfold psN
  rw [List.range_succ, List.filter_append]
  simp [h]
theorem psN_mem {S : List (ByteArray × Int)} {M : List (List Int)} {n k : Nat} : k ∈ psN S M n ↔ k < n ∧ faB M (atL S k) = false := by
  unfold psN
  rw [List.mem_filter, List.mem_range]
  simp
theorem psN_len (S : List (ByteArray × Int)) (M : List (List Int)) (n : Nat) : (psN S M n).length = cpN S M n := rfl
/-- Is an edit implied? -/
def imV (S : List (ByteArray × Int)) (P : List Nat) (E : List Int) : Bool := P.all fun k => !fsB E (atL S k)
theorem imV_bad {S : List (ByteArray × Int)} {P : List Nat} {E : List Int} {k : Nat} (h : k ∈ P) (hf : fsB E (atL S k) = true) : imV S P E = false := by
  unfold imV
  rw [List.all_eq_false]
  exact ⟨k, h, by simp [hf]⟩
theorem imV_all {S : List (ByteArray × Int)} {P : List Nat} {E : List Int} (h : ∀ k ∈ P, fsB E (atL S k) = false) : imV S P E = true := by
  unfold imV
  rw [List.all_eq_true]
  intro k hk
  rw [h k hk]
  rfl
def imG (S : List (ByteArray × Int)) (M : List (List Int)) (E : List Int) : Bool := smB S M && edB S E
def imB (S : List (ByteArray × Int)) (M : List (List Int)) (E : List Int) : Bool := imG S M E && imV S (psN S M (cnZ S).toNat) E
theorem imG_no1 {S : List (ByteArray × Int)} {M : List (List Int)} {E : List Int} (h : smB S M = false) : imG S M E = false ∧ imB S M E = false := by unfold imB imG; rw [h]; exact ⟨rfl, rfl⟩
theorem imG_no2 {S : List (ByteArray × Int)} {M : List (List Int)} {E : List Int} (h : edB S E = false) : imG S M E = false ∧ imB S M E = false := by unfold imB imG; rw [h, Bool.and_false]; exact ⟨rfl, rfl⟩
theorem imG_yes {S : List (ByteArray × Int)} {M : List (List Int)} {E : List Int} (h : smB S M = true) (k : edB S E = true) : imG S M E = true ∧ imB S M E = imV S (psN S M (cnZ S).toNat) E := by unfold imB imG; rw [h, k]; exact ⟨rfl, rfl⟩
/-- Do all values fail? -/
def icB (S : List (ByteArray × Int)) (M : List (List Int)) : Bool := smB S M && decide (cpN S M (cnZ S).toNat = 0)
theorem icB_no {S : List (ByteArray × Int)} {M : List (List Int)} (h : smB S M = false) : icB S M = false := by unfold icB; rw [h]; rfl
theorem icB_yes {S : List (ByteArray × Int)} {M : List (List Int)} (h : smB S M = true) (k : cpN S M (cnZ S).toNat = 0) : icB S M = true := by unfold icB; rw [h, decide_eq_true k]; rfl
theorem icB_not {S : List (ByteArray × Int)} {M : List (List Int)} (k : 0 < cpN S M (cnZ S).toNat) : icB S M = false := by unfold icB; rw [decide_eq_false (by omega), Bool.and_false]

/-- Does the list of values at a place pass, and agree with others in some variables? -/
def agB (F V x : List Int) : Bool := F.all fun v => decide (x[v.toNat]? = V[v.toNat]?)
def coP (S : List (ByteArray × Int)) (M : List (List Int)) (F V : List Int) (k : Nat) : Bool := !faB M (atL S k) && agB F V (atL S k)
/-- The first place, below n, at which p holds. -/
def ftN (p : Nat → Bool) (n : Nat) : Option Nat := (List.range n).find? p
theorem ft_hit {p : Nat → Bool} {k : Nat} (h0 : ftN p k = none) (h : p k = true) : ∀ d, ftN p (k + 1 + d) = some k
  | 0 => by
    unfold ftN at *
    rw [Nat.add_zero, List.range_succ, List.find?_append, h0]
    simp [h]
  | d + 1 => by
    have e := ft_hit h0 h d
    unfold ftN at *
    rw [← Nat.add_assoc, List.range_succ, List.find?_append, e]
    rfl
theorem ft_found {p : Nat → Bool} {k n : Nat} (hk : k < n) (h0 : ftN p k = none) (h : p k = true) : ftN p n = some k := by
  obtain ⟨d, rfl⟩ : ∃ d, n = k + 1 + d := ⟨n - (k + 1), by omega⟩
  exact ft_hit h0 h d
theorem ft_next {p : Nat → Bool} {k : Nat} (h0 : ftN p k = none) (h : p k = false) : ftN p (k + 1) = none := by
  unfold ftN at *
  rw [List.range_succ, List.find?_append, h0]
  simp [h]
theorem ft_zero (p : Nat → Bool) : ftN p 0 = none := rfl
def coG (S : List (ByteArray × Int)) (M : List (List Int)) (F V : List Int) : Bool := smB S M && (F.all fun v => decide (0 ≤ v ∧ v < S.length)) && decide (F.Pairwise (· < ·)) && fitB S V
def coN (S : List (ByteArray × Int)) (M : List (List Int)) (F V : List Int) : Option Nat := ftN (coP S M F V) (cnZ S).toNat
def coB (S : List (ByteArray × Int)) (M : List (List Int)) (F V : List Int) : Bool := coG S M F V && (coN S M F V).isSome
def coL (S : List (ByteArray × Int)) (M : List (List Int)) (F V : List Int) : List Int := match coN S M F V with | some k => atL S k | none => []
end Go.Proofs.YtpmbenedeakieabDoor

namespace Go.Proofs.YtpmbenedeakieabDoor
open Go.RowKit Go.Shelf
set_option maxRecDepth 100000
attribute [local go_sem] Oper.semAt_some

def Kp2 (n₀ B1 B2 : Nat) (A B : World) : Prop := Below n₀ A B ∧ B.heap[B1]? = A.heap[B1]? ∧ B.heap[B2]? = A.heap[B2]?
theorem grown_belowE {w w' : World} (hb : Below w.heap.size w w') : w.grownBy w' none := ⟨hb.os, hb.tape, hb.output, hb.size, fun k hk _ => hb.block k hk⟩
end Go.Proofs.YtpmbenedeakieabDoor

namespace Go.Proofs.YtpmbenedeakieabDoor
open Go.RowKit Go.Shelf
set_option maxRecDepth 100000

/-- What an iterator's contract promises to a body that returns at once: it calls yield at most once, where J still holds and R x holds of the value. -/
def OneYield {β : Type} (P : Program) (gf : Nat) (lb : Array Value) (val : β → Value) (R : β → World → Prop) (Non : Prop) (w : World) : Prop :=
  ∀ (l : Nat) (J : World → Prop) (Jx : β → World → Prop) (W : World), Below w.heap.size w W → (∀ A B : World, J A → A.grownBy B none → J B) →
    (∀ x W1, J W1 → R x W1 → YieldAt Fence.wide 3 P l #[val x] W1 fun e W' => e = .returned (.bool false) ∧ Jx x W') → J W →
    CallsIn Fence.wide 4 P gf (#[.func (.yield l) #[] #[]] ++ lb) W fun e W' => (∃ v, e = .returned v) ∧ ((Non ∧ J W') ∨ ∃ x, Jx x W')

theorem range_first {β : Type} {P : Program} {g : Operand} {ps : Array Tmp} {assign body : Code} {Q : Exit → Act → World → Prop} {a : Act} {w w0 : World} {gf : Nat} {lb : Array Value}
    (hg : a.eval g = .func (.func gf) #[] lb) (eg : ∀ args w, (callFunc gf args).run P w = .ok (.enter gf args) w) (hps : ps.size = 1)
    (val : β → Value) (R : β → World → Prop) (hR : OwnFrom w.heap.size R) (Non : Prop) (hit : OneYield P gf lb val R Non w0) (hb0 : Below w0.heap.size w0 w)
    (I : Unit → World → Prop) (hI : OwnFrom w.heap.size I) (h0 : I () w) (X : β → World → Prop) (hX : OwnFrom w.heap.size X) (a₁ : β → Act)
    (hassign : ∀ (l : Nat) (x : β) (W : World) (K : Act → World → Prop), K (a₁ x) W →
      assign.wpIn (Fence.wide.inRound l) 3 P (Exit.then K (fun _ _ _ => False)) { tmps := (ps.zip #[val x]).foldl (fun t (p, v) => t.setIfInBounds p v) a.tmps, defers := [] } W)
    (hbody : ∀ (l : Nat) (x : β) (W : World), I () W → R x W → body.wpIn (Fence.wide.inRound l) 3 P (fun e _ W' => e = .ret ∧ KeepsFrom w.heap.size W W' ∧ X x W') (a₁ x) W)
    (hdone : ∀ W : World, Non → I () W → W.heap[w.heap.size]? = some (.deferred (some [])) → Q .normal { a with defers := { target := .collected w.heap.size, args := #[] } :: a.defers } W)
    (hstop : ∀ (x : β) (W : World), X x W → W.heap[w.heap.size]? = some (.deferred (some [])) → Code.ret.wpIn Fence.wide 5 P Q { a with defers := { target := .collected w.heap.size, args := #[] } :: a.defers } W) :
    (Code.rangeFunc g ps assign body).wpIn Fence.wide 5 P Q a w := by
  refine wpIn_rangeFunc ?_
  intro fn hfn
  rw [show Fence.wide.round = none from rfl]
  let r : LoopState → Option Code → Loop := fun st pe => { state := st, pending := pe, fn := fn, tmps := a.tmps, params := ps, assign := assign, body := body, defers := w.heap.size }
  let W1 := (w.alloc (.deferred (some []))).alloc (.loop (r .ready none))
  have hsz : (w.alloc (.deferred (some []))).heap.size = w.heap.size + 1 := World.size_alloc _ _
  have hL : W1.heap[w.heap.size + 1]? = some (.loop (r .ready none)) := by rw [← hsz]; exact World.alloc_heap_new _ _
  have hD : W1.heap[w.heap.size]? = some (.deferred (some [])) := (Below.heap_alloc _ _ _ (by omega)).trans (World.alloc_heap_new w _)
  have hIW : I () W1 := hI.alloc _ (hI.alloc _ h0)
  have hbW : Below w0.heap.size w0 W1 := hb0.trans (((Below.refl _ w).alloc (Nat.le_refl _) _ |>.alloc (by omega) _).mono hb0.size)
  refine ⟨w.heap.size + 1, [{ target := .collected w.heap.size, args := #[] }], W1, { target := .fn (.func gf) lb, args := #[.func (.yield (w.heap.size + 1)) #[] #[]] }, W1, gf, #[.func (.yield (w.heap.size + 1)) #[] #[]] ++ lb, W1, run_enterLoop_outer _ _ _ _ _, ?_, fun _ _ => trivial, ?_, fun _ => by omega, ?_⟩
  · simp only [resolve, hg]
    simp [go_sem]
  · simp [invoke, go_sem, eg]
  refine (hit (w.heap.size + 1) (fun W => I () W ∧ W.heap[w.heap.size + 1]? = some (.loop (r .ready none)) ∧ W.heap[w.heap.size]? = some (.deferred (some [])))
    (fun x W => X x W ∧ W.heap[w.heap.size + 1]? = some (.loop (r .done (some .ret))) ∧ W.heap[w.heap.size]? = some (.deferred (some []))) W1 hbW ?_ ?_ ⟨hIW, hL, hD⟩).mono ?_
  · rintro A B ⟨i, l, d⟩ hgr
    exact ⟨hI () A B none i hgr (by intro k hk; cases hk), (hgr.block _ (Array.getElem?_eq_some_iff.1 l).1 (by intro h; cases h)).trans l, (hgr.block _ (Array.getElem?_eq_some_iff.1 d).1 (by intro h; cases h)).trans d⟩
  · rintro x W ⟨i, l, d⟩ hr
    refine ⟨fn, _, assign, body, run_yield (args := #[val x]) l (by show 1 = ps.size; omega), roundIn_of_wpIn hfn (hassign _ x W _ ?_)⟩
    have hlt := (Array.getElem?_eq_some_iff.1 l).1
    refine ⟨_, run_beginRound l rfl, ?_⟩
    have l2 : (W.putObj (w.heap.size + 1) (.loop (r .busy none))).heap[w.heap.size + 1]? = some (.loop (r .busy none)) := World.putObj_heap_same hlt
    have d2 : (W.putObj (w.heap.size + 1) (.loop (r .busy none))).heap[w.heap.size]? = some (.deferred (some [])) := (World.putObj_heap_other (by omega)).trans d
    refine wpIn_mono (hbody _ x _ (hI.putObj _ i (by omega) l rfl) (hR.putObj _ hr (by omega) l rfl)) ?_
    rintro e a3 W3 ⟨rfl, hk, hx⟩
    have l3 := hk.same _ _ (by omega) l2 rfl
    have d3 := hk.same _ _ (Nat.le_refl _) d2 rfl
    exact ⟨_, _, run_endRound (some .ret) l3, rfl, hX.putObj _ hx (by omega) l3 rfl, World.putObj_heap_same (Array.getElem?_eq_some_iff.1 l3).1, (World.putObj_heap_other (by omega)).trans d3⟩
  · rintro e W2 ⟨⟨v, rfl⟩, ⟨hn, i, l, d⟩ | ⟨x, hx, l, d⟩⟩
    · exact ⟨none, _, run_endLoop l (by intro h; cases h), hdone _ hn (hI.putObj _ i (by omega) l rfl) ((World.putObj_heap_other (by omega)).trans d)⟩
    · exact ⟨some .ret, _, run_endLoop l (by intro h; cases h), hstop x _ (hX.putObj _ hx (by omega) l rfl) ((World.putObj_heap_other (by omega)).trans d)⟩
end Go.Proofs.YtpmbenedeakieabDoor

namespace Go.Proofs.YtpmbenedeakieabDoor
open Go.RowKit Go.Shelf
set_option maxRecDepth 100000
attribute [local go_sem] Oper.semAt_some

/-- What holds of a list of values (with its place) that is handed to the loop's body. -/
def PvR (S : List (ByteArray × Int)) (M : List (List Int)) (n₀ N : Nat) (x : Value × Nat) (W : World) : Prop :=
  (x.2 < N ∧ cpN S M x.2 = 0 ∧ faB M (atL S x.2) = false) ∧ W.ownsRow n₀ 3 1 x.1 (atL S x.2).length (iC (atL S x.2))
/-- The two result variables' boxes, as they are laid at the beginning. -/
def ResB (n : Nat) (v : Value) (b : Bool) (W : World) : Prop := Boxed W n 22 v ∧ Boxed W (n + 1) 4 (.bool b)
theorem resB_new (w : World) : ResB w.heap.size (.slice none 0 0) false ((w.alloc (.cells #[.slice none 0 0] 22)).alloc (.cells #[.bool false] 4)) := by
  refine ⟨(Boxed.new w 22 _).alloc _, ?_⟩
  have := Boxed.new (w.alloc (.cells #[.slice none 0 0] 22)) 4 (.bool false)
  rwa [World.size_alloc] at this
theorem ResB.below {n : Nat} {v : Value} {b : Bool} {w W : World} (h : ResB n v b w) (hb : Below w.heap.size w W) : ResB n v b W := ⟨(hb.block _ h.1.lt).trans h.1, (hb.block _ h.2.lt).trans h.2⟩
theorem ResB.set {n : Nat} {v v0 : Value} {b b0 : Bool} {W : World} (h : ResB n v0 b0 W) : ResB n v b ((W.setCell ⟨n, 0, none⟩ v).setCell ⟨n + 1, 0, none⟩ (.bool b)) :=
  ⟨(h.1.set v).other (by omega) _, (h.2.other (by omega) v).set (.bool b)⟩
theorem resB_to {n : Nat} {v : Value} {b : Bool} {w W : World} (hb : Below w.heap.size w W) (hn : w.heap.size ≤ n) : Below w.heap.size w ((W.setCell ⟨n, 0, none⟩ v).setCell ⟨n + 1, 0, none⟩ (.bool b)) :=
  (hb.setCell (p := ⟨n, 0, none⟩) hn v).setCell (p := ⟨n + 1, 0, none⟩) (by show w.heap.size ≤ n + 1; omega) _
theorem ResB.put {n l : Nat} {v : Value} {b : Bool} {W : World} {o : Obj} (h : ResB n v b W) (o' : Obj) (hl : W.heap[l]? = some o) (ho : o.isCells = false) : ResB n v b (W.putObj l o') := by
  have hne : ∀ k c t z, W.heap[k]? = some (.cells c t z) → k ≠ l := by
    rintro k c t z hk rfl
    rw [hk] at hl
    cases hl
    cases ho
  exact ⟨(World.putObj_heap_other (hne _ _ _ _ h.1)).trans h.1, (World.putObj_heap_other (hne _ _ _ _ h.2)).trans h.2⟩
theorem own_cells {X Y : World} {row : Option Nat} {n₀ e size n : Nat} {v : Value} {xs : List Value} (h : X.ownsRow n₀ e size v n xs) (hg : X.grownBy Y row) (hrow : ∀ r, row = some r → ∃ o : Obj, X.heap[r]? = some o ∧ o.isCells = false) : Y.ownsRow n₀ e size v n xs := by
  refine h.kept hg ?_
  rcases h.2 with ⟨rfl, _⟩ | ⟨g, cap, cur, rfl, _, hgb, _⟩
  · exact .inl rfl
  · refine .inr fun e' => ?_
    obtain ⟨o, ho, hc⟩ := hrow g (by simpa [Value.ownBlock] using e'.symm)
    rw [hgb] at ho
    cases ho
    cases hc
theorem pvR_own (S : List (ByteArray × Int)) (M : List (List Int)) (n₀ N : Nat) : Own (PvR S M n₀ N) := fun _ _ _ _ h hg hr => ⟨h.1, own_cells h.2 hg hr⟩
theorem resB_own {β : Type} (n : Nat) (f : β → Value) (b : Bool) : Own (fun s W => ResB n (f s) b W) := fun s A B row h hg hr =>
  ⟨boxed_own n 22 f s A B row h.1 hg hr, boxed_own (n + 1) 4 (fun _ => .bool b) s A B row h.2 hg hr⟩
theorem pvR_set {S : List (ByteArray × Int)} {M : List (List Int)} {n₀ N n : Nat} {x : Value × Nat} {W : World} {v v0 : Value} {b b0 : Bool} (h : PvR S M n₀ N x W) (r : ResB n v0 b0 W) : PvR S M n₀ N x ((W.setCell ⟨n, 0, none⟩ v).setCell ⟨n + 1, 0, none⟩ (.bool b)) := by
  have h1 := h.2.kept (grownBy_setCell' W n v) (.inr (Ne.symm (r.1.not_row (by decide) h.2)))
  have r2 := r.2.other (by omega) (B' := n) v
  exact ⟨h.1, h1.kept (grownBy_setCell' _ (n + 1) (.bool b)) (.inr (Ne.symm (r2.not_row (by decide) h1)))⟩
end Go.Proofs.YtpmbenedeakieabDoor

namespace Go.Proofs.YtpmbenedeakieabDoor
open Go.RowKit Go.Shelf
set_option maxRecDepth 100000
attribute [local go_sem] Oper.semAt_some

/-- Two result variables' boxes. -/
def ResT (t n : Nat) (v : Value) (b : Bool) (W : World) : Prop := Boxed W n t v ∧ Boxed W (n + 1) 4 (.bool b)
theorem resT_new (t : Nat) (z : Value) (w : World) : ResT t w.heap.size z false ((w.alloc (.cells #[z] t)).alloc (.cells #[.bool false] 4)) := by
  refine ⟨(Boxed.new w t _).alloc _, ?_⟩
  have := Boxed.new (w.alloc (.cells #[z] t)) 4 (.bool false)
  rwa [World.size_alloc] at this
theorem ResT.below {t n : Nat} {v : Value} {b : Bool} {w W : World} (h : ResT t n v b w) (hb : Below w.heap.size w W) : ResT t n v b W := ⟨(hb.block _ h.1.lt).trans h.1, (hb.block _ h.2.lt).trans h.2⟩
theorem ResT.set {t n : Nat} {v v0 : Value} {b b0 : Bool} {W : World} (h : ResT t n v0 b0 W) : ResT t n v b ((W.setCell ⟨n, 0, none⟩ v).setCell ⟨n + 1, 0, none⟩ (.bool b)) :=
  ⟨(h.1.set v).other (by omega) _, (h.2.other (by omega) v).set (.bool b)⟩
theorem ResT.put {t n l : Nat} {v : Value} {b : Bool} {W : World} {o : Obj} (h : ResT t n v b W) (o' : Obj) (hl : W.heap[l]? = some o) (ho : o.isCells = false) : ResT t n v b (W.putObj l o') := by
  have hne : ∀ k c t z, W.heap[k]? = some (.cells c t z) → k ≠ l := by
    rintro k c t z hk rfl
    rw [hk] at hl
    cases hl
    cases ho
  exact ⟨(World.putObj_heap_other (hne _ _ _ _ h.1)).trans h.1, (World.putObj_heap_other (hne _ _ _ _ h.2)).trans h.2⟩
theorem resT_own {β : Type} (t n : Nat) (f : β → Value) (b : Bool) : Own (fun s W => ResT t n (f s) b W) := fun s A B row h hg hr =>
  ⟨boxed_own n t f s A B row h.1 hg hr, boxed_own (n + 1) 4 (fun _ => .bool b) s A B row h.2 hg hr⟩
end Go.Proofs.YtpmbenedeakieabDoor

namespace Go.Proofs.YtpmbenedeakieabDoor
open Go.RowKit
set_option maxRecDepth 100000

/-- Strictly increasing from b on, below n. -/
def rsU (n : Int) : Int → List Int → Bool
  | _, [] => true
  | b, v :: r => decide (b ≤ v ∧ v < n) && rsU n (v + 1) r
theorem rsU_at {n b : Int} {F : List Int} {i : Nat} {v : Int} (h : F[i]? = some v) : rsU n b (F.drop i) = (decide (b ≤ v ∧ v < n) && rsU n (v + 1) (F.drop (i + 1))) := by
  obtain ⟨hi, e⟩ := List.getElem?_eq_some_iff.1 h
  rw [List.drop_eq_getElem_cons hi, e]
  rfl
theorem rs_end {n b : Int} {F : List Int} : rsU n b (F.drop F.length) = true := by rw [List.drop_length]; rfl
theorem rs_bd {n : Int} : ∀ {b : Int} {F : List Int}, rsU n b F = true → ∀ v ∈ F, b ≤ v ∧ v < n
  | _, [], _, v, hv => by cases hv
  | b, u :: r, h, v, hv => by
    unfold rsU at h
    rw [Bool.and_eq_true, decide_eq_true_eq] at h
    rcases List.mem_cons.1 hv with rfl | hm
    · exact h.1
    · have := rs_bd h.2 v hm
      omega
def rsB (S : List (ByteArray × Int)) (F : List Int) : Bool := rsU S.length 0 F
theorem ag_hit {F V x : List Int} {i : Nat} {v : Int} (h : F[i]? = some v) (hne : ¬ x[v.toNat]? = V[v.toNat]?) : agB F V x = false := by
  unfold agB
  rw [List.all_eq_false]
  exact ⟨v, List.mem_of_getElem? h, by simp [hne]⟩
theorem ag_all {F V x : List Int} (h : ∀ j, j < F.length → ∃ v, F[j]? = some v ∧ x[v.toNat]? = V[v.toNat]?) : agB F V x = true := by
  unfold agB
  rw [List.all_eq_true]
  intro v hv
  obtain ⟨j, hj, e⟩ := List.getElem_of_mem hv
  obtain ⟨u, h1, h2⟩ := h j hj
  rw [List.getElem?_eq_getElem hj, e] at h1
  cases h1
  exact decide_eq_true h2
theorem ag_snoc {F V x : List Int} {i : Nat} {v : Int} (h : F[i]? = some v) : agB (F.take (i + 1)) V x = (agB (F.take i) V x && decide (x[v.toNat]? = V[v.toNat]?)) := by
  unfold agB
  rw [take_snoc h, List.all_append]
  simp
theorem ag_zero (F V x : List Int) : agB (F.take 0) V x = true := by rw [List.take_zero]; rfl
/-- Is all well asked? -/
def cgG (S : List (ByteArray × Int)) (M : List (List Int)) (F V : List Int) : Bool := smB S M && rsB S F && fitB S V
def ccB (S : List (ByteArray × Int)) (M : List (List Int)) (F V : List Int) : Bool := cgG S M F V && (coN S M F V).isSome
theorem cg_no1 {S : List (ByteArray × Int)} {M : List (List Int)} {F V : List Int} (h : smB S M = false) : cgG S M F V = false := by unfold cgG; rw [h]; rfl
theorem cg_no2 {S : List (ByteArray × Int)} {M : List (List Int)} {F V : List Int} (h : rsB S F = false) : cgG S M F V = false := by unfold cgG; rw [h, Bool.and_false]; rfl
theorem cg_no3 {S : List (ByteArray × Int)} {M : List (List Int)} {F V : List Int} (h : fitB S V = false) : cgG S M F V = false := by unfold cgG; rw [h, Bool.and_false]
theorem cg_yes {S : List (ByteArray × Int)} {M : List (List Int)} {F V : List Int} (h : smB S M = true) (k : rsB S F = true) (m : fitB S V = true) : cgG S M F V = true := by unfold cgG; rw [h, k, m]; rfl
theorem cg_get {S : List (ByteArray × Int)} {M : List (List Int)} {F V : List Int} (h : cgG S M F V = true) : smB S M = true ∧ rsB S F = true ∧ fitB S V = true := by
  unfold cgG at h
  rw [Bool.and_eq_true, Bool.and_eq_true] at h
  exact ⟨h.1.1, h.1.2, h.2⟩
theorem cc_no {S : List (ByteArray × Int)} {M : List (List Int)} {F V : List Int} (h : cgG S M F V = false) : ccB S M F V = false := by unfold ccB; rw [h]; rfl
theorem cc_ok {S : List (ByteArray × Int)} {M : List (List Int)} {F V : List Int} (h : cgG S M F V = true) : ccB S M F V = (coN S M F V).isSome := by unfold ccB; rw [h]; rfl
theorem co_none {S : List (ByteArray × Int)} {M : List (List Int)} {F V : List Int} (h : coN S M F V = none) : coL S M F V = [] := by unfold coL; rw [h]
theorem co_some {S : List (ByteArray × Int)} {M : List (List Int)} {F V : List Int} {k : Nat} (h : coN S M F V = some k) : coL S M F V = atL S k := by unfold coL; rw [h]
theorem co_len (S : List (ByteArray × Int)) (M : List (List Int)) (F V : List Int) : (coL S M F V).length ≤ S.length := by
  cases h : coN S M F V with
  | none => rw [co_none h]; exact Nat.zero_le _
  | some k => rw [co_some h, atL_len]; exact Nat.le_refl _
theorem coP_eq {S : List (ByteArray × Int)} {M : List (List Int)} {F V : List Int} (k : Nat) : coP S M F V k = (!faB M (atL S k) && agB F V (atL S k)) := rfl
set_option maxHeartbeats 1000000 in
theorem areVariablesOf_any (x y : Option Addr) (c1 c2 : Nat) (S : List (ByteArray × Int)) (F : List Int) (w : World) (hm : S.length ≤ 1048576) (hF : IIn w y F) :
    Calls Tryd.prog 68 #[.slice x S.length c1, .slice y F.length c2] w fun e w' => e = .returned (.bool (rsB S F)) ∧ w = w' := by
  have hFh := Lib.hid hF
  have hFl := hF.1
  clear hF
  go_enter Tryd.func68, Tryd.ntmps68
  go_wp2
  go_loopw [5, 10] (fun b c wr => ∃ (i : Nat) (bz : Int), i ≤ F.length ∧ c = .int .i64 i ∧ b = .int .i64 bz ∧ 0 ≤ bz ∧ bz ≤ 1048576 ∧ Hid (rsU S.length bz (F.drop i) = rsB S F) ∧ w = wr) (fun _ c _ => F.length - (intOf c).toNat)
  case atStart => exact ⟨0, 0, by omega, rfl, rfl, by omega, by omega, (by unfold Hid; rw [List.drop_zero]; rfl), rfl⟩
  case round =>
    obtain ⟨i, bz, hi, rfl, rfl, hb0, hb1, hrs, rfl⟩ := hrel
    by_cases hlt : i < F.length
    · obtain ⟨bl, off, v, rfl, hbl, hFi, hc0⟩ := hFh.out.2.2.int hlt
      have hv64 := hFh.out.2.1 v (List.mem_of_getElem? hFi)
      unfold IsI64 at hv64
      have hat := Lib.hid (rsU_at (n := (S.length : Int)) (b := bz) hFi)
      have hlt' : (i : Int) < (F.length : Int) := by omega
      have hi0 : (0 : Int) ≤ (i : Int) := by omega
      clear hFi
      by_cases h1 : v < bz
      · have hv : Hid (rsB S F = false) := by unfold Hid; rw [← hrs.out, hat.out, decide_eq_false (by omega)]; rfl
        go_wp2
        go_ret
        exact ⟨ret_bool hv.out.symm, rfl⟩
      · by_cases h2 : (S.length : Int) ≤ v
        · have hv : Hid (rsB S F = false) := by unfold Hid; rw [← hrs.out, hat.out, decide_eq_false (by omega)]; rfl
          go_wp2
          go_ret
          exact ⟨ret_bool hv.out.symm, rfl⟩
        · have hv : Hid (rsU S.length (v + 1) (F.drop (i + 1)) = rsB S F) := by unfold Hid; rw [← hrs.out, hat.out, decide_eq_true (by omega), Bool.true_and]
          go_wp2
          go_roundw
          case rel => exact ⟨i + 1, v + 1, by omega, by go_num, by go_num, by omega, by omega, hv.out, by first | rfl | trivial⟩
          case measure => simp [intOf]; omega
    · have hij : i = F.length := by omega
      subst hij
      have hv : Hid (rsB S F = true) := by unfold Hid; rw [← hrs.out]; exact rs_end
      clear hrs
      go_wp2
      go_ret
      exact ⟨ret_bool hv.out.symm, rfl⟩
set_option maxHeartbeats 2000000 in
theorem l1Rising_any (y : Option Addr) (c2 : Nat) (S : List (ByteArray × Int)) (F : List Int) (w : World) (hm : S.length ≤ 1048576) (hF : IIn w y F) :
    Calls Tryd.prog 54 #[.slice y F.length c2, .int .i64 0, .int .i64 ((S.length : Int) - 1)] w fun e w' => e = .returned (.bool (rsB S F)) ∧ Below w.heap.size w w' := by
  have hFh := Lib.hid hF
  have hFl := hF.1
  clear hF
  go_enter Tryd.func54, Tryd.ntmps54
  go_wp2
  go_loopw [11] (fun c wr => ∃ (i : Nat) (bz : Int), i ≤ F.length ∧ c = .int .i64 i ∧ Hid ((i = 0 ∧ bz = 0) ∨ ∃ u, 0 < i ∧ F[i - 1]? = some u ∧ bz = u + 1) ∧ 0 ≤ bz ∧ bz ≤ 1048576 ∧ Hid (rsU S.length bz (F.drop i) = rsB S F) ∧ Below w.heap.size w wr) (fun c _ => F.length - (intOf c).toNat)
  case atStart => exact ⟨0, 0, by omega, rfl, .inl ⟨rfl, rfl⟩, by omega, by omega, (by unfold Hid; rw [List.drop_zero]; rfl), Below.refl _ _⟩
  case round =>
    obtain ⟨i, bz, hi, rfl, hpre, hb0, hb1, hrs, hBr⟩ := hrel
    by_cases hlt : i < F.length
    · obtain ⟨bl, off, v, hy, hbl, hFi, hc0⟩ := (hFh.out.below hBr).2.2.int hlt
      have hv64 := hFh.out.2.1 v (List.mem_of_getElem? hFi)
      unfold IsI64 at hv64
      have hat := Lib.hid (rsU_at (n := (S.length : Int)) (b := bz) hFi)
      have hFih := Lib.hid hFi
      have hlt' : (i : Int) < (F.length : Int) := by omega
      have hi0 : (0 : Int) ≤ (i : Int) := by omega
      clear hFi
      subst hy
      go_wp2_with fail
      refine (l1In_any _ _ _ _).mono ?_
      rintro e w2 ⟨rfl, rfl⟩
      by_cases hin : 0 ≤ v ∧ v < (S.length : Int)
      · have hb : inB v 0 ((S.length : Int) - 1) = true := (inB_iff ..).2 ⟨hin.1, by omega⟩
        rw [hb]
        clear hb
        rcases hpre.out with ⟨rfl, rfl⟩ | ⟨u, hi1, hu, rfl⟩
        · have hv : Hid (rsU S.length (v + 1) (F.drop (0 + 1)) = rsB S F) := by unfold Hid; rw [← hrs.out, hat.out, decide_eq_true (by omega), Bool.true_and]
          go_wp2
          go_roundw
          case rel => exact ⟨0 + 1, v + 1, by omega, by go_num, .inr ⟨v, by omega, by simpa using hFih.out, rfl⟩, by omega, by omega, hv.out, (by repeat (first | exact Below.refl _ _ | assumption | refine Below.drew ?_ | refine below_drewN ?_ _ | refine Below.alloc' ?_ _ | (refine Below.setCell ?_ (by first | omega | (simp; done) | (simp; omega) | exact Below.size (by assumption) | exact Nat.le_trans (Below.size (by assumption)) (by simp)) _) | (refine Below.via' ?_ (by assumption)) | (refine Below.alloc ?_ (by first | omega | (simp; done) | (simp; omega) | exact Below.size (by assumption) | exact Nat.le_trans (Below.size (by assumption)) (by simp)) _) | (refine Below.via ?_ (by assumption) (by first | omega | (simp; done) | (simp; omega) | exact Below.size (by assumption) | exact Nat.le_trans (Below.size (by assumption)) (by simp)))))⟩
          case measure => simp [intOf]; omega
        · obtain ⟨bl2, off2, u2, e2, hbl2, hu2, hc1⟩ := (hFh.out.below hBr).2.2.int (i := i - 1) (by omega)
          injection e2 with e2
          injection e2 with e2 e3
          subst e2 e3
          obtain rfl := Option.some.inj (hu2.symm.trans hu)
          have hpos : (0 : Int) < (i : Int) := by omega
          have hge : (0 : Int) ≤ (i : Int) - 1 := by omega
          have hlt2 : (i : Int) - 1 < (F.length : Int) := by omega
          replace hu := Lib.hid hu
          replace hu2 := Lib.hid hu2
          by_cases h1 : v ≤ u2
          · have hv : Hid (rsB S F = false) := by unfold Hid; rw [← hrs.out, hat.out, decide_eq_false (by omega)]; rfl
            go_wp2
            go_ret
            exact ⟨ret_bool hv.out.symm, (by repeat (first | exact Below.refl _ _ | assumption | refine Below.drew ?_ | refine below_drewN ?_ _ | refine Below.alloc' ?_ _ | (refine Below.setCell ?_ (by first | omega | (simp; done) | (simp; omega) | exact Below.size (by assumption) | exact Nat.le_trans (Below.size (by assumption)) (by simp)) _) | (refine Below.via' ?_ (by assumption)) | (refine Below.alloc ?_ (by first | omega | (simp; done) | (simp; omega) | exact Below.size (by assumption) | exact Nat.le_trans (Below.size (by assumption)) (by simp)) _) | (refine Below.via ?_ (by assumption) (by first | omega | (simp; done) | (simp; omega) | exact Below.size (by assumption) | exact Nat.le_trans (Below.size (by assumption)) (by simp)))))⟩
          · have hv : Hid (rsU S.length (v + 1) (F.drop (i + 1)) = rsB S F) := by unfold Hid; rw [← hrs.out, hat.out, decide_eq_true (by omega), Bool.true_and]
            go_wp2
            go_roundw
            case rel => exact ⟨i + 1, v + 1, by omega, by go_num, .inr ⟨v, by omega, by simpa using hFih.out, rfl⟩, by omega, by omega, hv.out, (by repeat (first | exact Below.refl _ _ | assumption | refine Below.drew ?_ | refine below_drewN ?_ _ | refine Below.alloc' ?_ _ | (refine Below.setCell ?_ (by first | omega | (simp; done) | (simp; omega) | exact Below.size (by assumption) | exact Nat.le_trans (Below.size (by assumption)) (by simp)) _) | (refine Below.via' ?_ (by assumption)) | (refine Below.alloc ?_ (by first | omega | (simp; done) | (simp; omega) | exact Below.size (by assumption) | exact Nat.le_trans (Below.size (by assumption)) (by simp)) _) | (refine Below.via ?_ (by assumption) (by first | omega | (simp; done) | (simp; omega) | exact Below.size (by assumption) | exact Nat.le_trans (Below.size (by assumption)) (by simp)))))⟩
            case measure => simp [intOf]; omega
      · have hb : inB v 0 ((S.length : Int) - 1) = false := by
          cases h : inB v 0 ((S.length : Int) - 1) with
          | false => rfl
          | true => exact absurd ⟨((inB_iff ..).1 h).1, by have := ((inB_iff ..).1 h).2; omega⟩ hin
        have hv : Hid (rsB S F = false) := by unfold Hid; rw [← hrs.out, hat.out, decide_eq_false (by omega)]; rfl
        rw [hb]
        clear hb
        go_wp2
        go_ret
        exact ⟨ret_bool hv.out.symm, (by repeat (first | exact Below.refl _ _ | assumption | refine Below.drew ?_ | refine below_drewN ?_ _ | refine Below.alloc' ?_ _ | (refine Below.setCell ?_ (by first | omega | (simp; done) | (simp; omega) | exact Below.size (by assumption) | exact Nat.le_trans (Below.size (by assumption)) (by simp)) _) | (refine Below.via' ?_ (by assumption)) | (refine Below.alloc ?_ (by first | omega | (simp; done) | (simp; omega) | exact Below.size (by assumption) | exact Nat.le_trans (Below.size (by assumption)) (by simp)) _) | (refine Below.via ?_ (by assumption) (by first | omega | (simp; done) | (simp; omega) | exact Below.size (by assumption) | exact Nat.le_trans (Below.size (by assumption)) (by simp)))))⟩
    · have hij : i = F.length := by omega
      subst hij
      have hv : Hid (rsB S F = true) := by unfold Hid; rw [← hrs.out]; exact rs_end
      clear hrs hpre
      go_wp2
      go_ret
      exact ⟨ret_bool hv.out.symm, hBr⟩
end Go.Proofs.YtpmbenedeakieabDoor
