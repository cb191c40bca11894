import Derived.Test.YtgkaalonmkcclaaPQjB
import Derived.Test.YtgkaalonmkcclaaPts
import Derived.Test.YtgkaalonmkcclaaOrd
import Derived.Test.YtgkaalonmkcclaaTbL
import Derived.Test.YtgkaalonmkcclaaEdV
import Derived.Test.YtgkaalonmkcclaaApp
import Derived.Deep.RegionHeld
import Derived.Deep.RegionWith
import Derived.Test.YtgkaalonmkcclaaEdG
namespace Go.Proofs.Ytgkaalonmkcclaa
open Go.RowKit

/-- The variables that a list names; the values of these. -/
def tbS (S : List (ByteArray × Int)) (F : List Int) : List (ByteArray × Int) := F.map fun i => S.getD i.toNat (⟨#[]⟩, 0)
def tbV (V : List Int) (F : List Int) : List Int := F.map fun i => V.getD i.toNat 0
theorem tbS_len (S : List (ByteArray × Int)) (F : List Int) : (tbS S F).length = F.length := by unfold tbS; rw [List.length_map]
theorem tbV_len (V F : List Int) : (tbV V F).length = F.length := by unfold tbV; rw [List.length_map]
theorem tbS_at {S : List (ByteArray × Int)} {F : List Int} {k : Nat} {i : Int} {p : ByteArray × Int} (h : F[k]? = some i) (hp : S[i.toNat]? = some p) : (tbS S F)[k]? = some p := by
  unfold tbS
  rw [List.getElem?_map, h]
  simp [List.getD_eq_getElem?_getD, hp]
theorem tbV_at {V F : List Int} {k : Nat} {i v : Int} (h : F[k]? = some i) (hp : V[i.toNat]? = some v) : (tbV V F)[k]? = some v := by
  unfold tbV
  rw [List.getElem?_map, h]
  simp [List.getD_eq_getElem?_getD, hp]
theorem tbS_snoc (S : List (ByteArray × Int)) {F : List Int} {k : Nat} {i : Int} {p : ByteArray × Int} (h : F[k]? = some i) (hp : S[i.toNat]? = some p) : tbS S (F.take (k + 1)) = tbS S (F.take k) ++ [p] := by
  unfold tbS
  rw [take_snoc h, List.map_append]
  simp [List.getD_eq_getElem?_getD, hp]
theorem tbV_snoc (V : List Int) {F : List Int} {k : Nat} {i v : Int} (h : F[k]? = some i) (hp : V[i.toNat]? = some v) : tbV V (F.take (k + 1)) = tbV V (F.take k) ++ [v] := by
  unfold tbV
  rw [take_snoc h, List.map_append]
  simp [List.getD_eq_getElem?_getD, hp]
theorem rsU_pw {n : Int} : ∀ {b : Int} {F : List Int}, rsU n b F = true → F.Pairwise (fun a c => a < c)
  | _, [], _ => List.Pairwise.nil
  | b, v :: r, h => by
    unfold rsU at h
    rw [Bool.and_eq_true, decide_eq_true_eq] at h
    exact List.Pairwise.cons (fun u hu => by have := rs_bd h.2 u hu; omega) (rsU_pw h.2)
theorem rsU_len {n : Int} : ∀ {b : Int} {F : List Int}, rsU n b F = true → 0 ≤ b → b ≤ n → (F.length : Int) ≤ n - b
  | b, [], _, _, h => by simp; omega
  | b, v :: r, h, h0, h1 => by
    unfold rsU at h
    rw [Bool.and_eq_true, decide_eq_true_eq] at h
    have := rsU_len h.2 (by omega) (by omega)
    simp only [List.length_cons]
    omega
theorem rsB_len {S : List (ByteArray × Int)} {F : List Int} (h : rsB S F = true) : F.length ≤ S.length := by
  have := rsU_len h (by omega) (by omega)
  omega
theorem rsB_bd {S : List (ByteArray × Int)} {F : List Int} (h : rsB S F = true) {k : Nat} {i : Int} (hk : F[k]? = some i) : 0 ≤ i ∧ i < S.length ∧ i.toNat < S.length := by
  have := rs_bd h i (List.mem_of_getElem? hk)
  omega
theorem tbS_get {S : List (ByteArray × Int)} {F : List Int} (h : rsB S F = true) {k : Nat} {p : ByteArray × Int} (hk : (tbS S F)[k]? = some p) : ∃ i : Int, F[k]? = some i ∧ S[i.toNat]? = some p := by
  unfold tbS at hk
  rw [List.getElem?_map, Option.map_eq_some_iff] at hk
  obtain ⟨i, hi, e⟩ := hk
  have := (rsB_bd h hi).2.2
  rw [List.getD_eq_getElem?_getD, List.getElem?_eq_getElem this, Option.getD_some] at e
  exact ⟨i, hi, by rw [List.getElem?_eq_getElem this, e]⟩
theorem tbS_ok {S : List (ByteArray × Int)} {F : List Int} (hs : schB S = true) (h : rsB S F = true) : PtS (tbS S F) := by
  cases F with
  | nil => exact Or.inl rfl
  | cons f r =>
    right
    have hl := rsB_len h
    have h6 := schB_len hs
    rw [schB_of (by rw [tbS_len]; simp) (by rw [tbS_len]; omega), upB_iff]
    refine ⟨fun p hp => ?_, ?_⟩
    · obtain ⟨k, hk, e⟩ := List.getElem_of_mem hp
      obtain ⟨i, -, hi⟩ := tbS_get h (k := k) (p := p) (by rw [List.getElem?_eq_getElem hk, e])
      exact schB_va hs (List.mem_of_getElem? hi)
    · have hpw : (f :: r).Pairwise (fun a c => a < c) := rsU_pw h
      have hnd := ((upB_iff S).1 (schB_up hs)).2
      unfold ky tbS
      rw [List.map_map]
      show ((f :: r).map _).Pairwise (· ≠ ·)
      rw [List.pairwise_map]
      refine hpw.imp_of_mem fun {a c} ha hc hlt heq => ?_
      obtain ⟨ka, hka, ea⟩ := List.getElem_of_mem ha
      obtain ⟨kc, hkc, ec⟩ := List.getElem_of_mem hc
      have ba := rsB_bd h (k := ka) (i := a) (by rw [List.getElem?_eq_getElem hka, ea])
      have bc := rsB_bd h (k := kc) (i := c) (by rw [List.getElem?_eq_getElem hkc, ec])
      simp only [Function.comp, List.getD_eq_getElem?_getD, List.getElem?_eq_getElem ba.2.2, List.getElem?_eq_getElem bc.2.2, Option.getD_some] at heq
      have hla : a.toNat < (ky S).length := by unfold ky; rw [List.length_map]; exact ba.2.2
      have hlc : c.toNat < (ky S).length := by unfold ky; rw [List.length_map]; exact bc.2.2
      have := List.pairwise_iff_getElem.1 hnd a.toNat c.toNat hla hlc (by omega)
      have e1 : ∀ (i : Nat) (hi : i < (ky S).length) (h2 : i < S.length), (ky S)[i] = nmL S[i].1 := fun i hi h2 => by simp [ky]
      rw [e1 _ _ ba.2.2, e1 _ _ bc.2.2] at this
      exact this heq
theorem tbV_fit {S : List (ByteArray × Int)} {V F : List Int} (hf : fitB S V = true) (h : rsB S F = true) : fitB (tbS S F) (tbV V F) = true := by
  refine fit_all (by rw [tbS_len, tbV_len]) fun k hk => ?_
  have hk' : k < (tbS S F).length := hk
  obtain ⟨i, hi, hp⟩ := tbS_get h (k := k) (p := (tbS S F)[k]) (List.getElem?_eq_getElem hk')
  have hlt := (rsB_bd h hi).2.2
  have hv : V[i.toNat]? = some (V[i.toNat]'(by rw [fit_len hf]; exact hlt)) := List.getElem?_eq_getElem _
  have := fit_get hf (nm := ((tbS S F)[k]).1) (lv := ((tbS S F)[k]).2) hp hv
  exact ⟨((tbS S F)[k]).1, ((tbS S F)[k]).2, _, List.getElem?_eq_getElem hk', tbV_at hi hv, this.1, this.2⟩
/-- Conditions: a set of levels for each variable, none counts as all. -/
def twB (S : List (ByteArray × Int)) (W : List Int) : Bool := decide (W.length = S.length) && (S.zip W).all fun q => inB q.2 0 (2 ^ q.1.2.toNat - 1)
theorem tw_len {S : List (ByteArray × Int)} {W : List Int} (h : twB S W = true) : W.length = S.length := by unfold twB at h; simp only [Bool.and_eq_true, decide_eq_true_eq] at h; exact h.1
theorem tw_no {S : List (ByteArray × Int)} {W : List Int} (h : W.length ≠ S.length) : twB S W = false := by unfold twB; rw [decide_eq_false h]; rfl
theorem tw_bad {S : List (ByteArray × Int)} {W : List Int} {i : Nat} {nm : ByteArray} {lv x : Int} (h1 : S[i]? = some (nm, lv)) (h2 : W[i]? = some x) (h : inB x 0 (2 ^ lv.toNat - 1) = false) : twB S W = false := by
  unfold twB
  have : ((S.zip W).all fun q => inB q.2 0 (2 ^ q.1.2.toNat - 1)) = false := by
    rw [List.all_eq_false]
    exact ⟨((nm, lv), x), List.mem_of_getElem? (zip_at h1 h2), by rw [h]; decide⟩
  rw [this, Bool.and_false]
theorem tw_all {S : List (ByteArray × Int)} {W : List Int} (hl : W.length = S.length) (h : ∀ j, j < S.length → ∃ nm lv x, S[j]? = some (nm, lv) ∧ W[j]? = some x ∧ inB x 0 (2 ^ lv.toNat - 1) = true) : twB S W = true := by
  unfold twB
  rw [decide_eq_true hl, Bool.true_and, List.all_eq_true]
  intro q hq
  obtain ⟨j, hj, e⟩ := List.getElem_of_mem hq
  obtain ⟨nm, lv, x, a, b, c⟩ := h j (by rw [List.length_zip] at hj; omega)
  have e2 := List.getElem?_eq_getElem hj
  rw [zip_at a b, e] at e2
  cases e2
  exact c
theorem tw_get {S : List (ByteArray × Int)} {W : List Int} (hs : schB S = true) (h : twB S W = true) {i : Nat} {x : Int} (h2 : W[i]? = some x) : ∃ nm lv, S[i]? = some (nm, lv) ∧ 2 ≤ lv ∧ lv ≤ 8 ∧ 0 ≤ x ∧ x ≤ flZ lv ∧ x ≤ 255 := by
  have hi : i < S.length := by rw [← tw_len h]; exact (List.getElem?_eq_some_iff.1 h2).1
  have h1 : S[i]? = some (S[i].1, S[i].2) := List.getElem?_eq_getElem hi
  have hl := schB_lv hs h1
  refine ⟨_, _, h1, hl.1, hl.2, ?_⟩
  by_cases hb : inB x 0 (2 ^ (S[i].2).toNat - 1) = true
  · have hb2 := (inB_iff _ _ _).1 hb
    have := flZ_bd hl
    unfold flZ at this ⊢
    exact ⟨hb2.1, hb2.2, by omega⟩
  · rw [tw_bad h1 h2 (by simpa using hb)] at h
    cases h
/-- Are values in the sets of the conditions? -/
def tmB (W V : List Int) : Bool := (W.zip V).all fun q => decide (q.1 = 0) || hsB q.1 q.2
theorem tm_bad {W V : List Int} {i : Nat} {x v : Int} (h1 : W[i]? = some x) (h2 : V[i]? = some v) (h : x ≠ 0) (k : hsB x v = false) : tmB W V = false := by
  unfold tmB
  rw [List.all_eq_false]
  refine ⟨(x, v), List.mem_of_getElem? (List.getElem?_zip_eq_some.2 ⟨h1, h2⟩), ?_⟩
  simp only
  rw [decide_eq_false h, k]
  decide
theorem tm_all {W V : List Int} (h : ∀ j, j < W.length → ∃ x v, W[j]? = some x ∧ V[j]? = some v ∧ (x = 0 ∨ hsB x v = true)) : tmB W V = true := by
  unfold tmB
  rw [List.all_eq_true]
  intro q hq
  obtain ⟨j, hj, e⟩ := List.getElem_of_mem hq
  obtain ⟨x, v, a, b, c⟩ := h j (by rw [List.length_zip] at hj; omega)
  have e2 := List.getElem?_eq_getElem hj
  rw [List.getElem?_zip_eq_some.2 (show W[j]? = some (x, v).1 ∧ V[j]? = some (x, v).2 from ⟨a, b⟩), e] at e2
  cases e2
  simp only
  rcases c with c | c
  · rw [decide_eq_true c]; rfl
  · rw [c, Bool.or_true]

/-- How many cells; is it a table? -/
def tcZ (P : List Int) (S : List (ByteArray × Int)) (l : Int) (F : List Int) : Int := ((lvL P l).length : Int) * cnZ (tbS S F)
def tgB (P : List Int) (S : List (ByteArray × Int)) (l : Int) (F W : List Int) (m : Int) : Bool :=
  geB P && (schB S && (rsB S F && (twB S W && (inB m (-1) ((S.length : Int) - 1) && (decide (0 < (lvL P l).length) && decide (tcZ P S l F ≤ 600))))))
structure TgP (P : List Int) (S : List (ByteArray × Int)) (l : Int) (F W : List Int) (m : Int) : Prop where
  g : geB P = true
  s : schB S = true
  r : rsB S F = true
  w : twB S W = true
  m0 : -1 ≤ m
  m1 : m < S.length
  v : 0 < (lvL P l).length
  c : tcZ P S l F ≤ 600
theorem tg_iff {P : List Int} {S : List (ByteArray × Int)} {l : Int} {F W : List Int} {m : Int} : tgB P S l F W m = true ↔ TgP P S l F W m := by
  unfold tgB
  simp only [Bool.and_eq_true, decide_eq_true_eq, inB_iff]
  exact ⟨fun ⟨a, b, c, d, ⟨e0, e1⟩, f, g⟩ => ⟨a, b, c, d, e0, by omega, f, g⟩, fun ⟨a, b, c, d, e0, e1, f, g⟩ => ⟨a, b, c, d, ⟨e0, by omega⟩, f, g⟩⟩
theorem tg_no {P : List Int} {S : List (ByteArray × Int)} {l : Int} {F W : List Int} {m : Int} (h : ¬ TgP P S l F W m) : tgB P S l F W m = false := by
  rw [← Bool.not_eq_true, tg_iff]; exact h
theorem lvL_len (P : List Int) (l : Int) : (lvL P l).length ≤ P.length := sel_len _ _
theorem tc_bd {P : List Int} {S : List (ByteArray × Int)} {l : Int} {F : List Int} (hg : geB P = true) (hs : schB S = true) (h : rsB S F = true) : 0 ≤ tcZ P S l F ∧ tcZ P S l F ≤ 7864320 ∧ 1 ≤ cnZ (tbS S F) ∧ cnZ (tbS S F) ≤ 262144 := by
  have hc := pt_cn (tbS_ok hs h)
  have hl := lvL_len P l
  have h30 := (ge_len hg).2
  unfold tcZ
  generalize cnZ (tbS S F) = c at hc ⊢
  generalize (lvL P l).length = n at hl ⊢
  have p1 : (n : Int) * c ≤ 30 * 262144 := Int.mul_le_mul (by omega) hc.2 (by omega) (by omega)
  exact ⟨Int.mul_nonneg (by omega) (by omega), by omega, hc.1, hc.2⟩
theorem tc_pos {P : List Int} {S : List (ByteArray × Int)} {l : Int} {F W : List Int} {m : Int} (h : TgP P S l F W m) : 1 ≤ tcZ P S l F := by
  have hc := pt_cn (tbS_ok h.s h.r)
  have hv := h.v
  unfold tcZ
  generalize cnZ (tbS S F) = c at hc ⊢
  generalize (lvL P l).length = n at hv ⊢
  have p1 : 1 * 1 ≤ (n : Int) * c := Int.mul_le_mul (by omega) hc.1 (by omega) (by omega)
  omega

/-- Where a number stands in a list, or -1. -/
def fdI (L : List Int) (n : Int) : Int := match L.findIdx? (· == n) with | some i => i | none => -1
theorem fdI_hit {L : List Int} {n : Int} {i : Nat} (h : L[i]? = some n) (hb : ∀ j, j < i → ¬ L[j]? = some n) : fdI L n = i := by
  unfold fdI
  have : L.findIdx? (· == n) = some i := by
    rw [List.findIdx?_eq_some_iff_getElem]
    obtain ⟨hi, e⟩ := List.getElem?_eq_some_iff.1 h
    refine ⟨hi, by simp [e], fun j hj => ?_⟩
    have := hb j hj
    rw [List.getElem?_eq_getElem (by omega : j < L.length)] at this
    simpa using this
  rw [this]
theorem fdI_miss {L : List Int} {n : Int} (h : ¬ n ∈ L) : fdI L n = -1 := by
  unfold fdI
  have : L.findIdx? (· == n) = none := by
    rw [List.findIdx?_eq_none_iff]
    intro x hx
    simp only [beq_eq_false_iff_ne, ne_eq]
    rintro rfl
    exact h hx
  rw [this]
theorem fdI_mem {L : List Int} {n : Int} (h : n ∈ L) : ∃ i : Nat, fdI L n = i ∧ L[i]? = some n ∧ i < L.length := by
  unfold fdI
  cases hf : L.findIdx? (· == n) with
  | none =>
    rw [List.findIdx?_eq_none_iff] at hf
    have := hf n h
    simp at this
  | some i =>
    rw [List.findIdx?_eq_some_iff_getElem] at hf
    obtain ⟨hi, e, -⟩ := hf
    simp at e
    exact ⟨i, rfl, by rw [List.getElem?_eq_getElem hi, e], hi⟩
theorem fdI_bd (L : List Int) (n : Int) : -1 ≤ fdI L n ∧ fdI L n < L.length := by
  by_cases h : n ∈ L
  · obtain ⟨i, e, -, hi⟩ := fdI_mem h
    omega
  · rw [fdI_miss h]
    omega
theorem fdI_neg {L : List Int} {n : Int} : 0 ≤ fdI L n ↔ n ∈ L := by
  by_cases h : n ∈ L
  · obtain ⟨i, e, -, -⟩ := fdI_mem h
    exact ⟨fun _ => h, fun _ => by omega⟩
  · rw [fdI_miss h]
    exact ⟨fun k => by omega, fun k => absurd k h⟩

/-- The cell of an area and values. -/
def ceZ (P : List Int) (S : List (ByteArray × Int)) (l : Int) (F : List Int) (a : Int) (V : List Int) : Int := fdI (lvL P l) a * cnZ (tbS S F) + ixZ (tbS S F) V
theorem ce_bd {P : List Int} {S : List (ByteArray × Int)} {l : Int} {F W : List Int} {m a : Int} {V : List Int} (h : TgP P S l F W m) (ha : a ∈ lvL P l) (hf : fitB (tbS S F) V = true) :
    0 ≤ fdI (lvL P l) a * cnZ (tbS S F) ∧ fdI (lvL P l) a * cnZ (tbS S F) ≤ 600 ∧ 0 ≤ ceZ P S l F a V ∧ ceZ P S l F a V < tcZ P S l F := by
  obtain ⟨i, e, -, hi⟩ := fdI_mem ha
  have hp := tbS_ok h.s h.r
  have hc := pt_cn hp
  have hx := pt_ix hp hf
  have h6 := h.c
  unfold ceZ tcZ at *
  rw [e]
  generalize cnZ (tbS S F) = c at *
  generalize ixZ (tbS S F) V = x at *
  generalize (lvL P l).length = n at *
  have p1 : ((i : Int) + 1) * c ≤ (n : Int) * c := Int.mul_le_mul_of_nonneg_right (by omega) (by omega)
  have p2 : 0 ≤ (i : Int) * c := Int.mul_nonneg (by omega) (by omega)
  rw [Int.add_mul] at p1
  omega

/-- The area of a level above an area is one of that level. -/
theorem an_lv {P : List Int} (hg : geB P = true) {i : Nat} (hi : i < P.length) {l : Int} (h : 0 ≤ anZ P i l) : anZ P i l ∈ lvL P l := by
  have hb := (an_bd hg hi l).2.2.1 h
  obtain ⟨n, rfl⟩ := Int.eq_ofNat_of_zero_le hb.1
  have hn : n ≤ dpN P i := by omega
  revert hn
  refine ge_ind hg (Q := fun i => n ≤ dpN P i → anZ P i n ∈ lvL P n) (fun h0 => ?_) (fun i p hi hp hl ih h0 => ?_) i hi
  · rw [dp_zero] at h0
    obtain rfl : n = 0 := by omega
    rw [an_at (l := 0) (v := 0) (by rw [pt_zero]; rfl)]
    exact sel_mem.2 ⟨0, rfl, by have := ge_len hg; omega, by rw [dp_zero]; rfl⟩
  · have hd := dp_step hp hl
    have h0' : n ≤ dpN P i := h0
    rcases Nat.lt_or_ge (dpN P p) n with h1 | h1
    · obtain rfl : n = dpN P i := by omega
      rw [an_at (pt_last P)]
      exact sel_mem.2 ⟨i, rfl, hi, decide_eq_true rfl⟩
    · have e : anZ P i n = anZ P p n := by
        have hlt : n < (ptL P p).length := by rw [pt_len]; omega
        have hat : (ptL P p)[n]? = some ((ptL P p)[n]) := List.getElem?_eq_getElem hlt
        rw [an_at hat, an_at (v := (ptL P p)[n])]
        rw [pt_step hp hl, List.getElem?_append_left hlt, hat]
      show anZ P i n ∈ lvL P n
      rw [e]
      exact ih h1

/-- The cell and the amount of a record, or -1 and 0. -/
def clI (P : List Int) (S : List (ByteArray × Int)) (l : Int) (F W : List Int) (a : Int) (V : List Int) : Int := if 0 ≤ anZ P a.toNat l ∧ tmB W V = true then ceZ P S l F (anZ P a.toNat l) (tbV V F) else -1
def clN (P : List Int) (l : Int) (W : List Int) (m : Int) (a : Int) (V : List Int) : Int := if 0 ≤ anZ P a.toNat l ∧ tmB W V = true then (if m < 0 then 1 else V.getD m.toNat 0) else 0
theorem cl_no {P : List Int} {S : List (ByteArray × Int)} {l : Int} {F W : List Int} {m a : Int} {V : List Int} (h : ¬ (0 ≤ anZ P a.toNat l ∧ tmB W V = true)) : clI P S l F W a V = -1 ∧ clN P l W m a V = 0 := ⟨if_neg h, if_neg h⟩
theorem cl_yes {P : List Int} {S : List (ByteArray × Int)} {l : Int} {F W : List Int} {a : Int} {V : List Int} (h : 0 ≤ anZ P a.toNat l) (k : tmB W V = true) : clI P S l F W a V = ceZ P S l F (anZ P a.toNat l) (tbV V F) := if_pos ⟨h, k⟩
theorem cl_one {P : List Int} {l : Int} {W : List Int} {m a : Int} {V : List Int} (h : 0 ≤ anZ P a.toNat l) (k : tmB W V = true) (hm : m < 0) : clN P l W m a V = 1 := by unfold clN; rw [if_pos ⟨h, k⟩, if_pos hm]
theorem cl_val {P : List Int} {l : Int} {W : List Int} {m a v : Int} {V : List Int} (h : 0 ≤ anZ P a.toNat l) (k : tmB W V = true) (hm : 0 ≤ m) (hv : V[m.toNat]? = some v) : clN P l W m a V = v := by
  unfold clN
  rw [if_pos ⟨h, k⟩, if_neg (by omega), List.getD_eq_getElem?_getD, hv]
  rfl
theorem cl_bd {P : List Int} {S : List (ByteArray × Int)} {l : Int} {F W : List Int} {m a : Int} {V : List Int} (h : TgP P S l F W m) (ha : a.toNat < P.length) (hf : fitB S V = true) :
    -1 ≤ clI P S l F W a V ∧ clI P S l F W a V < tcZ P S l F ∧ 0 ≤ clN P l W m a V ∧ clN P l W m a V ≤ 8 := by
  by_cases hk : 0 ≤ anZ P a.toNat l ∧ tmB W V = true
  · rw [cl_yes hk.1 hk.2]
    have := ce_bd h (an_lv h.g ha hk.1) (tbV_fit hf h.r)
    refine ⟨by omega, this.2.2.2, ?_⟩
    by_cases hm : m < 0
    · rw [cl_one hk.1 hk.2 hm]; omega
    · have hi : m.toNat < S.length := by have := h.m1; omega
      have hs : S[m.toNat]? = some (S[m.toNat].1, S[m.toNat].2) := List.getElem?_eq_getElem hi
      have hv : V[m.toNat]? = some (V[m.toNat]'(by rw [fit_len hf]; exact hi)) := List.getElem?_eq_getElem _
      rw [cl_val hk.1 hk.2 (by omega) hv]
      have h1 := fit_get hf hs hv
      have h2 := schB_lv h.s hs
      omega
  · obtain ⟨e1, e2⟩ := cl_no (S := S) (F := F) (m := m) hk
    rw [e1, e2]
    have := tc_pos h
    omega

/-- A survey; what the functions answer. -/
def tyB (P : List Int) (M : List RV) : Bool := M.all fun r => (lfL P).contains r.1
end Go.Proofs.Ytgkaalonmkcclaa

namespace Go.Proofs.Ytgkaalonmkcclaa
open Go.RowKit
set_option maxRecDepth 100000

/-- A list with another's first n elements. -/
def kK (A W : List Int) (n : Nat) : List Int := A.take n ++ W.drop n
theorem kK_zero (A W : List Int) : kK A W 0 = W := by unfold kK; rw [List.take_zero, List.drop_zero, List.nil_append]
theorem kK_all {A W : List Int} {n : Nat} (h1 : A.length = n) (h2 : W.length = n) : kK A W n = A := by
  unfold kK
  rw [List.take_of_length_le (by omega), List.drop_of_length_le (by omega), List.append_nil]
theorem kK_len {A W : List Int} {n : Nat} (h1 : n ≤ A.length) (h2 : n ≤ W.length) : (kK A W n).length = W.length := by
  unfold kK
  rw [List.length_append, List.length_take, List.length_drop]
  omega
theorem kK_get {A W : List Int} {n : Nat} (h1 : n ≤ A.length) {x : Int} (h2 : W[n]? = some x) : (kK A W n)[n]? = some x := by
  unfold kK
  rw [List.getElem?_append_right (by rw [List.length_take]; omega), List.length_take, List.getElem?_drop, ← h2]
  congr 1
  omega
theorem kK_step {A W : List Int} {n : Nat} {v : Int} (h1 : A[n]? = some v) (h2 : n < W.length) : (kK A W n).set n v = kK A W (n + 1) := by
  have hA := (List.getElem?_eq_some_iff.1 h1).1
  unfold kK
  rw [take_snoc h1, List.drop_eq_getElem_cons h2, List.append_assoc, List.singleton_append]
  rw [List.set_append_right _ _ (by rw [List.length_take]; omega)]
  congr 1
  rw [List.length_take, show n - min n A.length = 0 by omega]
  rfl
theorem kK_same {A W : List Int} {n : Nat} {v : Int} (h1 : A[n]? = some v) (h2 : W[n]? = some v) : kK A W (n + 1) = kK A W n := by
  have hA := (List.getElem?_eq_some_iff.1 h1).1
  have hW := (List.getElem?_eq_some_iff.1 h2).1
  rw [← kK_step h1 hW]
  apply List.ext_getElem?
  intro j
  rw [List.getElem?_set]
  split
  · subst_vars
    rw [if_pos (by rw [kK_len (by omega) (by omega)]; exact hW), kK_get (by omega) h2]
  · rfl

/-- The sets of a normal table: 0 in place of all levels. -/
def nwL (S : List (ByteArray × Int)) (W : List Int) : List Int := List.zipWith (fun q x => if x = flZ q.2 then 0 else x) S W
section
variable {S : List (ByteArray × Int)} {W : List Int} {i : Nat} {nm : ByteArray} {lv x : Int}
theorem nwL_len (h : W.length = S.length) : (nwL S W).length = S.length := by unfold nwL; rw [List.length_zipWith, h, Nat.min_self]
theorem nwL_len2 (h : W.length = S.length) : (nwL S W).length = W.length := by rw [nwL_len h, h]
theorem nwL_yes (h1 : S[i]? = some (nm, lv)) (h2 : W[i]? = some x) (h : x = flZ lv) : (nwL S W)[i]? = some 0 := by
  unfold nwL
  rw [List.getElem?_zipWith, h1, h2]
  exact congrArg some (if_pos h)
theorem nwL_no (h1 : S[i]? = some (nm, lv)) (h2 : W[i]? = some x) (h : x ≠ flZ lv) : (nwL S W)[i]? = some x := by
  unfold nwL
  rw [List.getElem?_zipWith, h1, h2]
  exact congrArg some (if_neg h)
theorem nwL_i64 (h : ∀ n ∈ W, IsI64 n) : ∀ n ∈ nwL S W, IsI64 n := by
  intro n hn
  obtain ⟨j, hj, rfl⟩ := List.getElem_of_mem hn
  have hj' := hj
  unfold nwL at hj'
  rw [List.length_zipWith] at hj'
  have e1 : S[j]? = some (S[j].1, S[j].2) := List.getElem?_eq_getElem (by omega)
  have e2 : W[j]? = some W[j] := List.getElem?_eq_getElem (by omega)
  have e3 : (nwL S W)[j]? = some (nwL S W)[j] := List.getElem?_eq_getElem hj
  by_cases k : W[j] = flZ S[j].2
  · have := Option.some.inj (e3.symm.trans (nwL_yes e1 e2 k))
    rw [this]
    unfold IsI64
    omega
  · have := Option.some.inj (e3.symm.trans (nwL_no e1 e2 k))
    rw [this]
    exact h _ (List.getElem_mem _)
end
/-- What NormalTable answers. -/
def ntR (P : List Int) (S : List (ByteArray × Int)) (l : Int) (F W : List Int) (m : Int) : Int × List Int × List Int × Int := if tgB P S l F W m then (l, F, nwL S W, m) else (0, [], [], 0)
theorem ntR_yes {P : List Int} {S : List (ByteArray × Int)} {l : Int} {F W : List Int} {m : Int} (h : tgB P S l F W m = true) : ntR P S l F W m = (l, F, nwL S W, m) := by unfold ntR; rw [h]; rfl
theorem ntR_no {P : List Int} {S : List (ByteArray × Int)} {l : Int} {F W : List Int} {m : Int} (h : tgB P S l F W m = false) : ntR P S l F W m = (0, [], [], 0) := by unfold ntR; rw [h]; rfl
/-- A table's two lists that are owned: apart from each other, whichever lies first. -/
def OwY (w : World) (lo hi : Nat) (u v : Value) (F W : List Int) : Prop := ∃ a b c d, lo ≤ a ∧ b ≤ hi ∧ lo ≤ c ∧ d ≤ hi ∧ (b ≤ c ∨ d ≤ a) ∧ OwR w a b 3 1 u F.length (iC F) ∧ OwR w c d 3 1 v W.length (iC W)
section
variable {w w' : World} {lo hi : Nat} {u v : Value} {F W : List Int}
theorem OwY.below (h : OwY w lo hi u v F W) (hb : Below w.heap.size w w') : OwY w' lo hi u v F W := by
  obtain ⟨a, b, c, d, h1, h2, h3, h4, h5, p, q⟩ := h
  exact ⟨a, b, c, d, h1, h2, h3, h4, h5, p.below hb, q.below hb⟩
theorem OwY.off {lo2 hi2 : Nat} (h : OwY w lo hi u v F W) (hg : Off lo2 hi2 w w') (hne : hi ≤ lo2 ∨ hi2 ≤ lo) : OwY w' lo hi u v F W := by
  obtain ⟨a, b, c, d, h1, h2, h3, h4, h5, p, q⟩ := h
  exact ⟨a, b, c, d, h1, h2, h3, h4, h5, p.off hg (by omega), q.off hg (by omega)⟩
theorem OwY.keep {r : Option Nat} (h : OwY w lo hi u v F W) (hg : w.grownBy w' r) (hr : ∀ k, r = some k → k < lo ∨ hi ≤ k) : OwY w' lo hi u v F W := by
  obtain ⟨a, b, c, d, h1, h2, h3, h4, h5, p, q⟩ := h
  exact ⟨a, b, c, d, h1, h2, h3, h4, h5, p.keep hg (fun k hk => by have := hr k hk; omega), q.keep hg (fun k hk => by have := hr k hk; omega)⟩
theorem OwY.more {lo' hi' : Nat} (h : OwY w lo hi u v F W) (h1' : lo' ≤ lo) (h2' : hi ≤ hi') : OwY w lo' hi' u v F W := by
  obtain ⟨a, b, c, d, h1, h2, h3, h4, h5, p, q⟩ := h
  exact ⟨a, b, c, d, by omega, by omega, by omega, by omega, h5, p, q⟩
theorem OwY.of (h : OwT w lo hi u v F W) : OwY w lo hi u v F W := by
  obtain ⟨mid, h1, h2, a, b⟩ := h
  exact ⟨lo, mid, mid, hi, Nat.le_refl _, h2, h1, Nat.le_refl _, Or.inl (Nat.le_refl _), a, b⟩
theorem OwY.form (h : OwY w lo hi u v F W) : ∃ x c z d, u = .slice x F.length c ∧ v = .slice z W.length d := by
  obtain ⟨a, b, c, d, -, -, -, -, -, p, q⟩ := h
  obtain ⟨x, c, rfl, -⟩ := p.form
  obtain ⟨z, d, rfl, -⟩ := q.form
  exact ⟨x, c, z, d, rfl, rfl⟩
end
theorem OwY.rd {w : World} {lo hi : Nat} {x z : Option Addr} {c d : Nat} {F W : List Int} (h : OwY w lo hi (.slice x F.length c) (.slice z W.length d) F W) : Rd w x (iC F) ∧ Rd w z (iC W) := by
  obtain ⟨_, _, _, _, -, -, -, -, -, p, q⟩ := h
  exact ⟨p.rd, q.rd⟩
theorem TIn.of_owY {w : World} {lo hi : Nat} {x z : Option Addr} {c d : Nat} {F W : List Int} (h : OwY w lo hi (.slice x F.length c) (.slice z W.length d) F W) (hF : F.length ≤ 1048576) (hW : W.length ≤ 1048576) (hnF : ∀ n ∈ F, IsI64 n) (hnW : ∀ n ∈ W, IsI64 n) : TIn w x z F W := ⟨⟨hF, hnF, h.rd.1⟩, ⟨hW, hnW, h.rd.2⟩⟩
theorem grown_setN (W : World) (p : Addr) (v : Value) : W.grownBy (W.setCell p v) (some p.block) :=
  ⟨rfl, rfl, rfl, by simp [World.setCell], fun k _ hk => Below.heap_setCell _ _ _ k (fun e => hk (by rw [e]))⟩
theorem OwR.set {w : World} {lo hi size n : Nat} {e : TypeId} {u : Value} {xs : List Value} (h : OwR w lo hi e size u n xs) (p : Addr) (v : Value) (hp : p.block < lo ∨ hi ≤ p.block) : OwR (w.setCell p v) lo hi e size u n xs :=
  h.keep (grown_setN w p v) (fun k hk => by obtain rfl := Option.some.inj hk; exact hp)
/-- A table, handed back. -/
def RetT (l : Int) (F W : List Int) (m : Int) (w : World) (e : Ending) (w' : World) : Prop :=
  ∃ x c z d, e = .returned (.agg #[.int .i64 l, .slice x F.length c, .slice z W.length d, .int .i64 m]) ∧ OwY w' w.heap.size w'.heap.size (.slice x F.length c) (.slice z W.length d) F W ∧ Below w.heap.size w w'
/-- A table and a Bool, handed back. -/
def RetTB (R : Int × List Int × List Int × Int) (b : Bool) (w : World) (e : Ending) (w' : World) : Prop :=
  ∃ x c z d, e = .returned (.tuple #[.agg #[.int .i64 R.1, .slice x R.2.1.length c, .slice z R.2.2.1.length d, .int .i64 R.2.2.2], .bool b]) ∧ OwY w' w.heap.size w'.heap.size (.slice x R.2.1.length c) (.slice z R.2.2.1.length d) R.2.1 R.2.2.1 ∧ Below w.heap.size w w'
theorem retTB_no {b : Bool} {w w' : World} (k : b = false) (hB : Below w.heap.size w w') : RetTB (0, [], [], 0) b w (.returned (.tuple #[.agg #[.int .i64 0, .slice none 0 0, .slice none 0 0, .int .i64 0], .bool false])) w' := by
  subst k
  exact ⟨none, 0, none, 0, rfl, ⟨w.heap.size, w.heap.size, w.heap.size, w.heap.size, Nat.le_refl _, hB.size, Nat.le_refl _, hB.size, Or.inl (Nat.le_refl _), ⟨World.ownsRow_nil _ _ _ _, fun k hk => by cases hk⟩, ⟨World.ownsRow_nil _ _ _ _, fun k hk => by cases hk⟩⟩, hB⟩
end Go.Proofs.Ytgkaalonmkcclaa

namespace Go.Proofs.Ytgkaalonmkcclaa
open Go.RowKit
set_option maxRecDepth 100000

theorem TQ.set {w : World} {g : Nat} {l : Int} {x : Option Addr} {n c : Nat} {z : Option Addr} {k d : Nat} {m : Int} (h : TQ w g l x n c z k d m) (p : Addr) (v : Value) (hp : g ≠ p.block) : TQ (w.setCell p v) g l x n c z k d m := h.grown (grown_setN w p v) (fun e => hp (Option.some.inj e))
theorem ret_t {a b : Value} (h : a = b) : Ending.returned a = .returned b := by rw [h]
set_option maxHeartbeats 4000000 in
theorem nOwn_any (l : Int) (x z : Option Addr) (c d : Nat) (F W : List Int) (m : Int) (w : World) (hmF : F.length ≤ 1048576) (hmW : W.length ≤ 1048576) (hcF : F.length ≤ c) (hnF : x = none → c = 0) (hcW : W.length ≤ d) (hnW : z = none → d = 0) (hF : Rd w x (iC F)) (hW : Rd w z (iC W)) :
    Calls Try.prog 128 #[.agg #[.int .i64 l, .slice x F.length c, .slice z W.length d, .int .i64 m]] w (RetT l F W m w) := by
  have hFh := Lib.hid hF
  have hWh := Lib.hid hW
  clear hF hW
  have q0 := TQ.new w l x F.length c z W.length d m 37
  obtain ⟨W2, hW2⟩ : ∃ W2, W2 = (w.alloc (.cells #[.int .i64 l, .slice x F.length c, .slice z W.length d, .int .i64 m] 37)).alloc (.cells #[.int .i64 0, .slice none 0 0, .slice none 0 0, .int .i64 0] 37) := ⟨_, rfl⟩
  have q2 : TQ W2 w.heap.size l x F.length c z W.length d m := by rw [hW2]; exact q0.below (by repeat (first | exact Below.refl _ _ | assumption | refine Below.drew ?_ | refine below_drewN ?_ _ | refine Below.alloc' ?_ _ | (refine Below.setCell ?_ (by first | omega | (simp; done) | (simp; omega) | exact Below.size (by assumption) | exact Nat.le_trans (Below.size (by assumption)) (by simp)) _) | (refine Below.via' ?_ (by assumption)) | (refine Below.alloc ?_ (by first | omega | (simp; done) | (simp; omega) | exact Below.size (by assumption) | exact Nat.le_trans (Below.size (by assumption)) (by simp)) _) | (refine Below.via ?_ (by assumption) (by first | omega | (simp; done) | (simp; omega) | exact Below.size (by assumption) | exact Nat.le_trans (Below.size (by assumption)) (by simp)))))
  have B2 : Below w.heap.size w W2 := by rw [hW2]; exact (by repeat (first | exact Below.refl _ _ | assumption | refine Below.drew ?_ | refine below_drewN ?_ _ | refine Below.alloc' ?_ _ | (refine Below.setCell ?_ (by first | omega | (simp; done) | (simp; omega) | exact Below.size (by assumption) | exact Nat.le_trans (Below.size (by assumption)) (by simp)) _) | (refine Below.via' ?_ (by assumption)) | (refine Below.alloc ?_ (by first | omega | (simp; done) | (simp; omega) | exact Below.size (by assumption) | exact Nat.le_trans (Below.size (by assumption)) (by simp)) _) | (refine Below.via ?_ (by assumption) (by first | omega | (simp; done) | (simp; omega) | exact Below.size (by assumption) | exact Nat.le_trans (Below.size (by assumption)) (by simp)))))
  have zz := Wb.new (w.alloc (.cells #[.int .i64 l, .slice x F.length c, .slice z W.length d, .int .i64 m] 37)) 37 #[.int .i64 0, .slice none 0 0, .slice none 0 0, .int .i64 0]
  rw [← hW2, World.size_alloc] at zz
  have hs2 : W2.heap.size = w.heap.size + 1 + 1 := by rw [hW2]; simp
  replace zz := Lib.hid zz
  replace hW2 := Lib.hid hW2
  replace q2 := Lib.hid q2
  clear q0
  go_enter Try.func128, Try.ntmps128
  go_wp2_with fail
  rw [← hW2.out]
  refine wp_region_held_drew (S := fun X => Below w.heap.size w X ∧ TQ X w.heap.size l x F.length c z W.length d m) (by kernel_rfl) ⟨Below.drew B2, q2.out.below (Below.drew (Below.refl _ _))⟩ (fun hH => ?_)
  refine wpAnyH_take (i := 0) (v := ?_) rfl (by kernel_rfl) (by kernel_rfl) (by kernel_rfl) (fun _ _ _ h => h) (Or.inl ⟨by rfl, ?_⟩) (by assumption) ?_; rotate_left; · (intro wz hz; (have f0 := hz.2.1; have f1 := hz.2.2.1; have f2 := hz.2.2.2.1; have f3 := hz.2.2.2.2.1); clear hz; go_simp; try with_reducible rfl); (try simp only [Act.put, List.getElem_toArray, List.getElem_cons_succ, List.getElem_cons_zero, List.setIfInBounds_toArray, List.set_cons_zero, List.set_cons_succ])
  refine wpAnyH_take (i := 1) (v := ?_) rfl (by kernel_rfl) (by kernel_rfl) (by kernel_rfl) (fun _ _ _ h => h) (Or.inl ⟨by rfl, ?_⟩) (by assumption) ?_; rotate_left; · (intro wz hz; (have f0 := hz.2.1; have f1 := hz.2.2.1; have f2 := hz.2.2.2.1; have f3 := hz.2.2.2.2.1); clear hz; go_simp; try with_reducible rfl); (try simp only [Act.put, List.getElem_toArray, List.getElem_cons_succ, List.getElem_cons_zero, List.setIfInBounds_toArray, List.set_cons_zero, List.set_cons_succ])
  refine wpAnyH_take (i := 2) (v := ?_) rfl (by kernel_rfl) (by kernel_rfl) (by kernel_rfl) (fun _ _ _ h => h) (Or.inl ⟨by rfl, ?_⟩) (by assumption) ?_; rotate_left; · (intro wz hz; (have f0 := hz.2.1; have f1 := hz.2.2.1; have f2 := hz.2.2.2.1; have f3 := hz.2.2.2.2.1); clear hz; go_simp; try with_reducible rfl); (try simp only [Act.put, List.getElem_toArray, List.getElem_cons_succ, List.getElem_cons_zero, List.setIfInBounds_toArray, List.set_cons_zero, List.set_cons_succ])
  refine wpAnyH_take (i := 3) (v := ?_) rfl (by kernel_rfl) (by kernel_rfl) (by kernel_rfl) (fun _ _ _ h => h) (Or.inl ⟨by rfl, ?_⟩) (by assumption) ?_; rotate_left; · (intro wz hz; (have f0 := hz.2.1; have f1 := hz.2.2.1; have f2 := hz.2.2.2.1; have f3 := hz.2.2.2.2.1); clear hz; go_simp; try with_reducible rfl); (try simp only [Act.put, List.getElem_toArray, List.getElem_cons_succ, List.getElem_cons_zero, List.setIfInBounds_toArray, List.set_cons_zero, List.set_cons_succ])
  refine wpAnyH_take (i := 5) (v := ?_) rfl (by kernel_rfl) (by kernel_rfl) (by kernel_rfl) (fun _ _ _ h => h) (Or.inl ⟨by rfl, ?_⟩) (by assumption) ?_; rotate_left; · (intro wz hz; (have f0 := hz.2.1; have f1 := hz.2.2.1; have f2 := hz.2.2.2.1; have f3 := hz.2.2.2.2.1); clear hz; go_simp; try with_reducible rfl); (try simp only [Act.put, List.getElem_toArray, List.getElem_cons_succ, List.getElem_cons_zero, List.setIfInBounds_toArray, List.set_cons_zero, List.set_cons_succ])
  refine wpAnyH_take (i := 6) (v := ?_) rfl (by kernel_rfl) (by kernel_rfl) (by kernel_rfl) (fun _ _ _ h => h) (Or.inl ⟨by rfl, ?_⟩) (by assumption) ?_; rotate_left; · (intro wz hz; (have f0 := hz.2.1; have f1 := hz.2.2.1; have f2 := hz.2.2.2.1; have f3 := hz.2.2.2.2.1); clear hz; go_simp; try with_reducible rfl); (try simp only [Act.put, List.getElem_toArray, List.getElem_cons_succ, List.getElem_cons_zero, List.setIfInBounds_toArray, List.set_cons_zero, List.set_cons_succ])
  refine wpAnyH_take (i := 8) (v := ?_) rfl (by kernel_rfl) (by kernel_rfl) (by kernel_rfl) (fun _ _ _ h => h) (Or.inl ⟨by rfl, ?_⟩) (by assumption) ?_; rotate_left; · (intro wz hz; (have f0 := hz.2.1; have f1 := hz.2.2.1; have f2 := hz.2.2.2.1; have f3 := hz.2.2.2.2.1); clear hz; go_simp; try with_reducible rfl); (try simp only [Act.put, List.getElem_toArray, List.getElem_cons_succ, List.getElem_cons_zero, List.setIfInBounds_toArray, List.set_cons_zero, List.set_cons_succ])
  refine wpAnyH_take (i := 9) (v := ?_) rfl (by kernel_rfl) (by kernel_rfl) (by kernel_rfl) (fun _ _ _ h => h) (Or.inl ⟨by rfl, ?_⟩) (by assumption) ?_; rotate_left; · (intro wz hz; (have f0 := hz.2.1; have f1 := hz.2.2.1; have f2 := hz.2.2.2.1; have f3 := hz.2.2.2.2.1); clear hz; go_simp; try with_reducible rfl); (try simp only [Act.put, List.getElem_toArray, List.getElem_cons_succ, List.getElem_cons_zero, List.setIfInBounds_toArray, List.set_cons_zero, List.set_cons_succ])
  refine wpAnyH_ready (rs := [4]) (by kernel_rfl) (by simp) (AllReadyH.cons rfl (fun K hK => ?_) AllReadyH.nil); go_simp
  go_simp; refine (l1Own_any x c F _ hmF hcF hnF (hFh.out.below (by exact (by repeat (first | exact Below.refl _ _ | assumption | refine Below.drew ?_ | refine below_drewN ?_ _ | refine Below.alloc' ?_ _ | (refine Below.setCell ?_ (by first | omega | (simp; done) | (simp; omega) | exact Below.size (by assumption) | exact Nat.le_trans (Below.size (by assumption)) (by simp)) _) | (refine Below.via' ?_ (by assumption)) | (refine Below.alloc ?_ (by first | omega | (simp; done) | (simp; omega) | exact Below.size (by assumption) | exact Nat.le_trans (Below.size (by assumption)) (by simp)) _) | (refine Below.via ?_ (by assumption) (by first | omega | (simp; done) | (simp; omega) | exact Below.size (by assumption) | exact Nat.le_trans (Below.size (by assumption)) (by simp)))))))).mono ?_; rintro e wF ⟨uF, rfl, hoF, hbF⟩; (have hOF := Lib.hid (OwR.of hoF)); (obtain ⟨xF, cF, rfl, -, -⟩ := hOF.out.form); clear hoF; refine hK.out _ _ ⟨Below.via' hH.1 hbF, hH.2.below hbF⟩ (fun hHF => ?_); clear hK K; (try simp only [Act.put, List.getElem_toArray, List.getElem_cons_succ, List.getElem_cons_zero, List.setIfInBounds_toArray, List.set_cons_zero, List.set_cons_succ])
  refine wpAnyH_ready (rs := [7]) (by kernel_rfl) (by simp) (AllReadyH.cons rfl (fun K hK => ?_) AllReadyH.nil); go_simp
  go_simp; refine (l1Own_any z d W _ hmW hcW hnW (hWh.out.below (by exact (by repeat (first | exact Below.refl _ _ | assumption | refine Below.drew ?_ | refine below_drewN ?_ _ | refine Below.alloc' ?_ _ | (refine Below.setCell ?_ (by first | omega | (simp; done) | (simp; omega) | exact Below.size (by assumption) | exact Nat.le_trans (Below.size (by assumption)) (by simp)) _) | (refine Below.via' ?_ (by assumption)) | (refine Below.alloc ?_ (by first | omega | (simp; done) | (simp; omega) | exact Below.size (by assumption) | exact Nat.le_trans (Below.size (by assumption)) (by simp)) _) | (refine Below.via ?_ (by assumption) (by first | omega | (simp; done) | (simp; omega) | exact Below.size (by assumption) | exact Nat.le_trans (Below.size (by assumption)) (by simp)))))))).mono ?_; rintro e wW ⟨uW, rfl, hoW, hbW⟩; (have hOW := Lib.hid (OwR.of hoW)); (obtain ⟨xW, cW, rfl, -, -⟩ := hOW.out.form); clear hoW; refine hK.out _ _ ⟨Below.via' hHF.1 hbW, hHF.2.below hbW⟩ (fun hHW => ?_); clear hK K; (try simp only [Act.put, List.getElem_toArray, List.getElem_cons_succ, List.getElem_cons_zero, List.setIfInBounds_toArray, List.set_cons_zero, List.set_cons_succ])
  refine wpAnyH_take (i := 10) (v := ?_) rfl (by kernel_rfl) (by kernel_rfl) (by kernel_rfl) (fun _ _ _ h => h) (Or.inl ⟨by rfl, ?_⟩) (by assumption) ?_; rotate_left; · (intro wz hz; (skip); clear hz; go_simp; try with_reducible rfl); (try simp only [Act.put, List.getElem_toArray, List.getElem_cons_succ, List.getElem_cons_zero, List.setIfInBounds_toArray, List.set_cons_zero, List.set_cons_succ])
  have zW := Lib.hid (((show Wb W2.drew (w.heap.size + 1) 37 #[.int .i64 0, .slice none 0 0, .slice none 0 0, .int .i64 0] from zz.out).kept hbF).kept hbW)
  have e1 := hbF.size
  have e2 := hbW.size
  have e0 : W2.drew.heap.size = W2.heap.size := rfl
  have ya := zW.out.read 0; have yb := zW.out.read 1; have yc := zW.out.read 2; have yd := zW.out.read 3; have ye := zW.out.free 0; have yf := zW.out.free 1; have yg := zW.out.free 2; have yh := zW.out.free 3
  have yin := zW.out.inside
  refine wpAnyH_ready (rs := [11]) (by kernel_rfl) (by simp) (AllReadyH.cons rfl (fun K hK => ?_) AllReadyH.nil); go_simp
  have hHW1 := hHW.1
  refine hK.out _ _ ⟨(by repeat (first | exact Below.refl _ _ | assumption | refine Below.drew ?_ | refine below_drewN ?_ _ | refine Below.alloc' ?_ _ | (refine Below.setCell ?_ (by first | omega | (simp; done) | (simp; omega) | exact Below.size (by assumption) | exact Nat.le_trans (Below.size (by assumption)) (by simp)) _) | (refine Below.via' ?_ (by assumption)) | (refine Below.alloc ?_ (by first | omega | (simp; done) | (simp; omega) | exact Below.size (by assumption) | exact Nat.le_trans (Below.size (by assumption)) (by simp)) _) | (refine Below.via ?_ (by assumption) (by first | omega | (simp; done) | (simp; omega) | exact Below.size (by assumption) | exact Nat.le_trans (Below.size (by assumption)) (by simp))))), (((hHW.2.set _ _ (by simp)).set _ _ (by simp)).set _ _ (by simp)).set _ _ (by simp)⟩ (fun hE => ?_)
  clear hK K
  (try simp only [Act.put, List.getElem_toArray, List.getElem_cons_succ, List.getElem_cons_zero, List.setIfInBounds_toArray, List.set_cons_zero, List.set_cons_succ])
  refine wpAnyH_done (by kernel_rfl) ?_ _
  go_wp2_with fail
  refine bodyPost_ret (v := .agg #[.int .i64 l, .slice xF F.length cF, .slice xW W.length cW, .int .i64 m]) (by simp [results, Try.results128, go_sem, *]) rfl ⟨_, _, _, _, rfl, ⟨W2.heap.size, wF.heap.size, wF.heap.size, wW.heap.size, by omega, by simp; omega, by omega, by simp, Or.inl (Nat.le_refl _), ?_, ?_⟩, hE.1⟩
  · repeat (refine OwR.set ?_ _ _ (Or.inl (by simp; omega)))
    exact hOF.out.below hbW
  · repeat (refine OwR.set ?_ _ _ (Or.inl (by simp; omega)))
    exact hOW.out
set_option maxHeartbeats 32000000 in
theorem copyTable_any (l : Int) (x z : Option Addr) (c d : Nat) (F W : List Int) (m : Int) (w : World) (hmF : F.length ≤ 1048576) (hmW : W.length ≤ 1048576) (hcF : F.length ≤ c) (hnF : x = none → c = 0) (hcW : W.length ≤ d) (hnW : z = none → d = 0) (hF : Rd w x (iC F)) (hW : Rd w z (iC W)) :
    Calls Try.prog 130 #[.agg #[.int .i64 l, .slice x F.length c, .slice z W.length d, .int .i64 m]] w (RetT l F W m w) := by
  have hFh := Lib.hid hF
  have hWh := Lib.hid hW
  clear hF hW
  have q0 := Wb.new w 37 #[.int .i64 l, .slice x F.length c, .slice z W.length d, .int .i64 m]
  obtain ⟨W2, hW2⟩ : ∃ W2, W2 = (w.alloc (.cells #[.int .i64 l, .slice x F.length c, .slice z W.length d, .int .i64 m] 37)).alloc (.cells #[.int .i64 0, .slice none 0 0, .slice none 0 0, .int .i64 0] 37) := ⟨_, rfl⟩
  replace q0 := q0.kept (show Below (w.alloc (.cells #[.int .i64 l, .slice x F.length c, .slice z W.length d, .int .i64 m] 37)).heap.size (w.alloc (.cells #[.int .i64 l, .slice x F.length c, .slice z W.length d, .int .i64 m] 37)) W2 from by rw [hW2]; exact (by repeat (first | exact Below.refl _ _ | assumption | refine Below.drew ?_ | refine below_drewN ?_ _ | refine Below.alloc' ?_ _ | (refine Below.setCell ?_ (by first | omega | (simp; done) | (simp; omega) | exact Below.size (by assumption) | exact Nat.le_trans (Below.size (by assumption)) (by simp)) _) | (refine Below.via' ?_ (by assumption)) | (refine Below.alloc ?_ (by first | omega | (simp; done) | (simp; omega) | exact Below.size (by assumption) | exact Nat.le_trans (Below.size (by assumption)) (by simp)) _) | (refine Below.via ?_ (by assumption) (by first | omega | (simp; done) | (simp; omega) | exact Below.size (by assumption) | exact Nat.le_trans (Below.size (by assumption)) (by simp))))))
  have B2 : Below w.heap.size w W2 := by rw [hW2]; exact (by repeat (first | exact Below.refl _ _ | assumption | refine Below.drew ?_ | refine below_drewN ?_ _ | refine Below.alloc' ?_ _ | (refine Below.setCell ?_ (by first | omega | (simp; done) | (simp; omega) | exact Below.size (by assumption) | exact Nat.le_trans (Below.size (by assumption)) (by simp)) _) | (refine Below.via' ?_ (by assumption)) | (refine Below.alloc ?_ (by first | omega | (simp; done) | (simp; omega) | exact Below.size (by assumption) | exact Nat.le_trans (Below.size (by assumption)) (by simp)) _) | (refine Below.via ?_ (by assumption) (by first | omega | (simp; done) | (simp; omega) | exact Below.size (by assumption) | exact Nat.le_trans (Below.size (by assumption)) (by simp)))))
  have zz := Wb.new (w.alloc (.cells #[.int .i64 l, .slice x F.length c, .slice z W.length d, .int .i64 m] 37)) 37 #[.int .i64 0, .slice none 0 0, .slice none 0 0, .int .i64 0]
  rw [← hW2, World.size_alloc] at zz
  have hs2 : W2.heap.size = w.heap.size + 1 + 1 := by rw [hW2]; simp
  replace zz := Lib.hid zz
  replace hW2 := Lib.hid hW2
  replace q0 := Lib.hid q0
  have pa := q0.out.read 0; have pb := q0.out.read 1; have pc := q0.out.read 2; have pd := q0.out.read 3; have pe := q0.out.free 0; have pf := q0.out.free 1; have pg := q0.out.free 2; have ph := q0.out.free 3
  clear pa pb pc pd pe pf pg ph
  have q1 := Lib.hid (show Wb W2.drew w.heap.size 37 #[.int .i64 l, .slice x F.length c, .slice z W.length d, .int .i64 m] from q0.out)
  have z1 := Lib.hid (show Wb W2.drew (w.heap.size + 1) 37 #[.int .i64 0, .slice none 0 0, .slice none 0 0, .int .i64 0] from zz.out)
  have p1 := q1.out.read 1
  have p2 := q1.out.read 2
  have e0 : W2.drew.heap.size = W2.heap.size := rfl
  clear q0 zz
  go_enter Try.func130, Try.ntmps130
  go_wp2_with fail
  rw [← hW2.out]
  refine wp_region_held_drew (S := fun X => Below w.heap.size w X) (by kernel_rfl) (Below.drew B2) (fun hH => ?_)
  refine wpAnyH_take (i := 0) (v := ?_) rfl (by kernel_rfl) (by kernel_rfl) (by kernel_rfl) (fun _ _ _ h => h) (Or.inl ⟨by rfl, ?_⟩) (by assumption) ?_; rotate_left; · (intro wz hz; (skip); clear hz; go_simp; try with_reducible rfl); (try simp only [Act.put, List.getElem_toArray, List.getElem_cons_succ, List.getElem_cons_zero, List.setIfInBounds_toArray, List.set_cons_zero, List.set_cons_succ])
  refine wpAnyH_take (i := 3) (v := ?_) rfl (by kernel_rfl) (by kernel_rfl) (by kernel_rfl) (fun _ _ _ h => h) (Or.inl ⟨by rfl, ?_⟩) (by assumption) ?_; rotate_left; · (intro wz hz; (skip); clear hz; go_simp; try with_reducible rfl); (try simp only [Act.put, List.getElem_toArray, List.getElem_cons_succ, List.getElem_cons_zero, List.setIfInBounds_toArray, List.set_cons_zero, List.set_cons_succ])
  refine wpAnyH_ready (rs := [1, 4]) (by kernel_rfl) (by simp) (AllReadyH.cons rfl (fun K hK => ?_) (AllReadyH.cons rfl (fun K hK => ?_) AllReadyH.nil))
  go_simp; refine hK.out _ _ hH (fun _ => ?_); clear hK K; (try simp only [Act.put, List.getElem_toArray, List.getElem_cons_succ, List.getElem_cons_zero, List.setIfInBounds_toArray, List.set_cons_zero, List.set_cons_succ])
  refine wpAnyH_ready (rs := [2, 4]) (by kernel_rfl) (by simp) (AllReadyH.cons rfl (fun K hK => ?_) (AllReadyH.cons rfl (fun K hK => ?_) AllReadyH.nil))
  go_simp; refine (cloneInt_any x c F _ hmF hcF hnF (hFh.out.below (by exact (by repeat (first | exact Below.refl _ _ | assumption | refine Below.drew ?_ | refine below_drewN ?_ _ | refine Below.alloc' ?_ _ | (refine Below.setCell ?_ (by first | omega | (simp; done) | (simp; omega) | exact Below.size (by assumption) | exact Nat.le_trans (Below.size (by assumption)) (by simp)) _) | (refine Below.via' ?_ (by assumption)) | (refine Below.alloc ?_ (by first | omega | (simp; done) | (simp; omega) | exact Below.size (by assumption) | exact Nat.le_trans (Below.size (by assumption)) (by simp)) _) | (refine Below.via ?_ (by assumption) (by first | omega | (simp; done) | (simp; omega) | exact Below.size (by assumption) | exact Nat.le_trans (Below.size (by assumption)) (by simp)))))))).mono ?_; rintro e wF ⟨uF, rfl, hoF, hbF⟩; (have hOF := Lib.hid (OwR.of hoF)); (obtain ⟨xF, cF, rfl, -, -⟩ := hOF.out.form); clear hoF p1 p2; (have qF := Lib.hid (q1.out.kept hbF)); (have p1 := qF.out.read 1); (have p2 := qF.out.read 2); refine hK.out _ _ (Below.via' hH hbF) (fun hHF => ?_); clear hK K; (try simp only [Act.put, List.getElem_toArray, List.getElem_cons_succ, List.getElem_cons_zero, List.setIfInBounds_toArray, List.set_cons_zero, List.set_cons_succ])
  refine wpAnyH_ready (rs := [4]) (by kernel_rfl) (by simp) (AllReadyH.cons rfl (fun K hK => ?_) AllReadyH.nil); go_simp
  go_simp; refine hK.out _ _ hHF (fun _ => ?_); clear hK K; (try simp only [Act.put, List.getElem_toArray, List.getElem_cons_succ, List.getElem_cons_zero, List.setIfInBounds_toArray, List.set_cons_zero, List.set_cons_succ])
  refine wpAnyH_take (i := 6) (v := ?_) rfl (by kernel_rfl) (by kernel_rfl) (by kernel_rfl) (fun _ _ _ h => h) (Or.inl ⟨by rfl, ?_⟩) (by assumption) ?_; rotate_left; · (intro wz hz; (skip); clear hz; go_simp; try with_reducible rfl); (try simp only [Act.put, List.getElem_toArray, List.getElem_cons_succ, List.getElem_cons_zero, List.setIfInBounds_toArray, List.set_cons_zero, List.set_cons_succ])
  refine wpAnyH_ready (rs := [5]) (by kernel_rfl) (by simp) (AllReadyH.cons rfl (fun K hK => ?_) AllReadyH.nil); go_simp
  go_simp; refine (cloneInt_any z d W _ hmW hcW hnW (hWh.out.below (by exact (by repeat (first | exact Below.refl _ _ | assumption | refine Below.drew ?_ | refine below_drewN ?_ _ | refine Below.alloc' ?_ _ | (refine Below.setCell ?_ (by first | omega | (simp; done) | (simp; omega) | exact Below.size (by assumption) | exact Nat.le_trans (Below.size (by assumption)) (by simp)) _) | (refine Below.via' ?_ (by assumption)) | (refine Below.alloc ?_ (by first | omega | (simp; done) | (simp; omega) | exact Below.size (by assumption) | exact Nat.le_trans (Below.size (by assumption)) (by simp)) _) | (refine Below.via ?_ (by assumption) (by first | omega | (simp; done) | (simp; omega) | exact Below.size (by assumption) | exact Nat.le_trans (Below.size (by assumption)) (by simp)))))))).mono ?_; rintro e wW ⟨uW, rfl, hoW, hbW⟩; (have hOW := Lib.hid (OwR.of hoW)); (obtain ⟨xW, cW, rfl, -, -⟩ := hOW.out.form); clear hoW p1 p2; refine hK.out _ _ (Below.via' hHF hbW) (fun hHW => ?_); clear hK K; (try simp only [Act.put, List.getElem_toArray, List.getElem_cons_succ, List.getElem_cons_zero, List.setIfInBounds_toArray, List.set_cons_zero, List.set_cons_succ])
  have e1 := hbF.size
  have e2 := hbW.size
  have zW := Lib.hid ((z1.out.kept hbF).kept hbW)
  have qW := Lib.hid (qF.out.kept hbW)
  have u1 := qW.out.read 1
  have u2 := qW.out.free 1
  refine wpAnyH_ready (rs := [7]) (by kernel_rfl) (by simp) (AllReadyH.cons rfl (fun K hK => ?_) AllReadyH.nil); go_simp
  have h7 : Below w.heap.size w (wW.setCell ⟨w.heap.size, 1, none⟩ (.slice xF F.length cF)) := (by repeat (first | exact Below.refl _ _ | assumption | refine Below.drew ?_ | refine below_drewN ?_ _ | refine Below.alloc' ?_ _ | (refine Below.setCell ?_ (by first | omega | (simp; done) | (simp; omega) | exact Below.size (by assumption) | exact Nat.le_trans (Below.size (by assumption)) (by simp)) _) | (refine Below.via' ?_ (by assumption)) | (refine Below.alloc ?_ (by first | omega | (simp; done) | (simp; omega) | exact Below.size (by assumption) | exact Nat.le_trans (Below.size (by assumption)) (by simp)) _) | (refine Below.via ?_ (by assumption) (by first | omega | (simp; done) | (simp; omega) | exact Below.size (by assumption) | exact Nat.le_trans (Below.size (by assumption)) (by simp)))))
  refine hK.out _ _ h7 (fun _ => ?_)
  clear hK K u1 u2
  (try simp only [Act.put, List.getElem_toArray, List.getElem_cons_succ, List.getElem_cons_zero, List.setIfInBounds_toArray, List.set_cons_zero, List.set_cons_succ])
  have qX := Lib.hid (show Wb (wW.setCell ⟨w.heap.size, 1, none⟩ (.slice xF F.length cF)) w.heap.size 37 #[.int .i64 l, .slice xF F.length cF, .slice z W.length d, .int .i64 m] from qW.out.put 1 _)
  have u1 := qX.out.read 2
  have u2 := qX.out.free 2
  refine wpAnyH_take (i := 8) (v := ?_) rfl (by kernel_rfl) (by kernel_rfl) (by kernel_rfl) (fun _ _ _ h => h) (Or.inl ⟨by rfl, ?_⟩) (by assumption) ?_; rotate_left; · (intro wz hz; (skip); clear hz; go_simp; try with_reducible rfl); (try simp only [Act.put, List.getElem_toArray, List.getElem_cons_succ, List.getElem_cons_zero, List.setIfInBounds_toArray, List.set_cons_zero, List.set_cons_succ])
  refine wpAnyH_ready (rs := [9]) (by kernel_rfl) (by simp) (AllReadyH.cons rfl (fun K hK => ?_) AllReadyH.nil); go_simp
  have h9 : Below w.heap.size w ((wW.setCell ⟨w.heap.size, 1, none⟩ (.slice xF F.length cF)).setCell ⟨w.heap.size, 2, none⟩ (.slice xW W.length cW)) := (by repeat (first | exact Below.refl _ _ | assumption | refine Below.drew ?_ | refine below_drewN ?_ _ | refine Below.alloc' ?_ _ | (refine Below.setCell ?_ (by first | omega | (simp; done) | (simp; omega) | exact Below.size (by assumption) | exact Nat.le_trans (Below.size (by assumption)) (by simp)) _) | (refine Below.via' ?_ (by assumption)) | (refine Below.alloc ?_ (by first | omega | (simp; done) | (simp; omega) | exact Below.size (by assumption) | exact Nat.le_trans (Below.size (by assumption)) (by simp)) _) | (refine Below.via ?_ (by assumption) (by first | omega | (simp; done) | (simp; omega) | exact Below.size (by assumption) | exact Nat.le_trans (Below.size (by assumption)) (by simp)))))
  refine hK.out _ _ h9 (fun _ => ?_)
  clear hK K u1 u2
  (try simp only [Act.put, List.getElem_toArray, List.getElem_cons_succ, List.getElem_cons_zero, List.setIfInBounds_toArray, List.set_cons_zero, List.set_cons_succ])
  obtain ⟨X, hX⟩ : ∃ X, X = ((wW.setCell ⟨w.heap.size, 1, none⟩ (.slice xF F.length cF)).setCell ⟨w.heap.size, 2, none⟩ (.slice xW W.length cW)) := ⟨_, rfl⟩
  have qY : Wb X w.heap.size 37 #[.int .i64 l, .slice xF F.length cF, .slice xW W.length cW, .int .i64 m] := by rw [hX]; exact qX.out.put 2 _
  have zY : Wb X (w.heap.size + 1) 37 #[.int .i64 0, .slice none 0 0, .slice none 0 0, .int .i64 0] := by rw [hX]; exact ((Below.heap_setCell _ _ _ _ (by simp)).trans ((Below.heap_setCell _ _ _ _ (by simp)).trans zW.out))
  have oF : OwR X W2.heap.size wF.heap.size 3 1 (.slice xF F.length cF) F.length (iC F) := by rw [hX]; exact ((hOF.out.below hbW).set _ _ (Or.inl (by show w.heap.size < W2.heap.size; omega))).set _ _ (Or.inl (by show w.heap.size < W2.heap.size; omega))
  have oW : OwR X wF.heap.size wW.heap.size 3 1 (.slice xW W.length cW) W.length (iC W) := by rw [hX]; exact (hOW.out.set _ _ (Or.inl (by show w.heap.size < wF.heap.size; omega))).set _ _ (Or.inl (by show w.heap.size < wF.heap.size; omega))
  have sX : X.heap.size = wW.heap.size := by rw [hX]; simp
  rw [← hX]
  rw [← hX] at h9
  replace oF := Lib.hid oF
  replace oW := Lib.hid oW
  replace hX := Lib.hid hX
  have qa := qY.read 0; have qb := qY.read 1; have qc := qY.read 2; have qd := qY.read 3; have qe := qY.free 0; have qf := qY.free 1; have qg := qY.free 2; have qh := qY.free 3
  have ya := zY.read 0; have yb := zY.read 1; have yc := zY.read 2; have yd := zY.read 3; have ye := zY.free 0; have yf := zY.free 1; have yg := zY.free 2; have yh := zY.free 3
  clear qX qW zW qF z1 q1 hOF hOW hH hHF hHW h7 B2 hW2 hFh hWh qY
  refine wpAnyH_done (by kernel_rfl) ?_ _
  go_wp2_with fail
  refine bodyPost_ret (v := .agg #[.int .i64 l, .slice xF F.length cF, .slice xW W.length cW, .int .i64 m]) (by simp [results, Try.results130, go_sem, *]) rfl ⟨_, _, _, _, rfl, ⟨W2.heap.size, wF.heap.size, wF.heap.size, wW.heap.size, by omega, by simp; omega, by omega, by simp; omega, Or.inl (Nat.le_refl _), ?_, ?_⟩, ?_⟩
  repeat (refine OwR.set ?_ _ _ (Or.inl (by show w.heap.size + 1 < W2.heap.size; omega)))
  exact oF.out
  repeat (refine OwR.set ?_ _ _ (Or.inl (by show w.heap.size + 1 < wF.heap.size; omega)))
  exact oW.out
  exact (by repeat (first | exact Below.refl _ _ | assumption | refine Below.drew ?_ | refine below_drewN ?_ _ | refine Below.alloc' ?_ _ | (refine Below.setCell ?_ (by first | omega | (simp; done) | (simp; omega) | exact Below.size (by assumption) | exact Nat.le_trans (Below.size (by assumption)) (by simp)) _) | (refine Below.via' ?_ (by assumption)) | (refine Below.alloc ?_ (by first | omega | (simp; done) | (simp; omega) | exact Below.size (by assumption) | exact Nat.le_trans (Below.size (by assumption)) (by simp)) _) | (refine Below.via ?_ (by assumption) (by first | omega | (simp; done) | (simp; omega) | exact Below.size (by assumption) | exact Nat.le_trans (Below.size (by assumption)) (by simp)))))
  go_simp; refine hK.out _ _ hH (fun _ => ?_); clear hK K; (try simp only [Act.put, List.getElem_toArray, List.getElem_cons_succ, List.getElem_cons_zero, List.setIfInBounds_toArray, List.set_cons_zero, List.set_cons_succ])
  refine wpAnyH_ready (rs := [2]) (by kernel_rfl) (by simp) (AllReadyH.cons rfl (fun K hK => ?_) AllReadyH.nil); go_simp
  go_simp; refine (cloneInt_any x c F _ hmF hcF hnF (hFh.out.below (by exact (by repeat (first | exact Below.refl _ _ | assumption | refine Below.drew ?_ | refine below_drewN ?_ _ | refine Below.alloc' ?_ _ | (refine Below.setCell ?_ (by first | omega | (simp; done) | (simp; omega) | exact Below.size (by assumption) | exact Nat.le_trans (Below.size (by assumption)) (by simp)) _) | (refine Below.via' ?_ (by assumption)) | (refine Below.alloc ?_ (by first | omega | (simp; done) | (simp; omega) | exact Below.size (by assumption) | exact Nat.le_trans (Below.size (by assumption)) (by simp)) _) | (refine Below.via ?_ (by assumption) (by first | omega | (simp; done) | (simp; omega) | exact Below.size (by assumption) | exact Nat.le_trans (Below.size (by assumption)) (by simp)))))))).mono ?_; rintro e wF ⟨uF, rfl, hoF, hbF⟩; (have hOF := Lib.hid (OwR.of hoF)); (obtain ⟨xF, cF, rfl, -, -⟩ := hOF.out.form); clear hoF p1 p2; (have qF := Lib.hid (q1.out.kept hbF)); (have p1 := qF.out.read 1); (have p2 := qF.out.read 2); refine hK.out _ _ (Below.via' hH hbF) (fun hHF => ?_); clear hK K; (try simp only [Act.put, List.getElem_toArray, List.getElem_cons_succ, List.getElem_cons_zero, List.setIfInBounds_toArray, List.set_cons_zero, List.set_cons_succ])
  refine wpAnyH_take (i := 6) (v := ?_) rfl (by kernel_rfl) (by kernel_rfl) (by kernel_rfl) (fun _ _ _ h => h) (Or.inl ⟨by rfl, ?_⟩) (by assumption) ?_; rotate_left; · (intro wz hz; (skip); clear hz; go_simp; try with_reducible rfl); (try simp only [Act.put, List.getElem_toArray, List.getElem_cons_succ, List.getElem_cons_zero, List.setIfInBounds_toArray, List.set_cons_zero, List.set_cons_succ])
  refine wpAnyH_ready (rs := [5]) (by kernel_rfl) (by simp) (AllReadyH.cons rfl (fun K hK => ?_) AllReadyH.nil); go_simp
  go_simp; refine (cloneInt_any z d W _ hmW hcW hnW (hWh.out.below (by exact (by repeat (first | exact Below.refl _ _ | assumption | refine Below.drew ?_ | refine below_drewN ?_ _ | refine Below.alloc' ?_ _ | (refine Below.setCell ?_ (by first | omega | (simp; done) | (simp; omega) | exact Below.size (by assumption) | exact Nat.le_trans (Below.size (by assumption)) (by simp)) _) | (refine Below.via' ?_ (by assumption)) | (refine Below.alloc ?_ (by first | omega | (simp; done) | (simp; omega) | exact Below.size (by assumption) | exact Nat.le_trans (Below.size (by assumption)) (by simp)) _) | (refine Below.via ?_ (by assumption) (by first | omega | (simp; done) | (simp; omega) | exact Below.size (by assumption) | exact Nat.le_trans (Below.size (by assumption)) (by simp)))))))).mono ?_; rintro e wW ⟨uW, rfl, hoW, hbW⟩; (have hOW := Lib.hid (OwR.of hoW)); (obtain ⟨xW, cW, rfl, -, -⟩ := hOW.out.form); clear hoW p1 p2; refine hK.out _ _ (Below.via' hHF hbW) (fun hHW => ?_); clear hK K; (try simp only [Act.put, List.getElem_toArray, List.getElem_cons_succ, List.getElem_cons_zero, List.setIfInBounds_toArray, List.set_cons_zero, List.set_cons_succ])
  have e1 := hbF.size
  have e2 := hbW.size
  have zW := Lib.hid ((z1.out.kept hbF).kept hbW)
  have qW := Lib.hid (qF.out.kept hbW)
  have u1 := qW.out.read 1
  have u2 := qW.out.free 1
  refine wpAnyH_ready (rs := [7]) (by kernel_rfl) (by simp) (AllReadyH.cons rfl (fun K hK => ?_) AllReadyH.nil); go_simp
  have h7 : Below w.heap.size w (wW.setCell ⟨w.heap.size, 1, none⟩ (.slice xF F.length cF)) := (by repeat (first | exact Below.refl _ _ | assumption | refine Below.drew ?_ | refine below_drewN ?_ _ | refine Below.alloc' ?_ _ | (refine Below.setCell ?_ (by first | omega | (simp; done) | (simp; omega) | exact Below.size (by assumption) | exact Nat.le_trans (Below.size (by assumption)) (by simp)) _) | (refine Below.via' ?_ (by assumption)) | (refine Below.alloc ?_ (by first | omega | (simp; done) | (simp; omega) | exact Below.size (by assumption) | exact Nat.le_trans (Below.size (by assumption)) (by simp)) _) | (refine Below.via ?_ (by assumption) (by first | omega | (simp; done) | (simp; omega) | exact Below.size (by assumption) | exact Nat.le_trans (Below.size (by assumption)) (by simp)))))
  refine hK.out _ _ h7 (fun _ => ?_)
  clear hK K u1 u2
  (try simp only [Act.put, List.getElem_toArray, List.getElem_cons_succ, List.getElem_cons_zero, List.setIfInBounds_toArray, List.set_cons_zero, List.set_cons_succ])
  have qX := Lib.hid (show Wb (wW.setCell ⟨w.heap.size, 1, none⟩ (.slice xF F.length cF)) w.heap.size 37 #[.int .i64 l, .slice xF F.length cF, .slice z W.length d, .int .i64 m] from qW.out.put 1 _)
  have u1 := qX.out.read 2
  have u2 := qX.out.free 2
  refine wpAnyH_take (i := 8) (v := ?_) rfl (by kernel_rfl) (by kernel_rfl) (by kernel_rfl) (fun _ _ _ h => h) (Or.inl ⟨by rfl, ?_⟩) (by assumption) ?_; rotate_left; · (intro wz hz; (skip); clear hz; go_simp; try with_reducible rfl); (try simp only [Act.put, List.getElem_toArray, List.getElem_cons_succ, List.getElem_cons_zero, List.setIfInBounds_toArray, List.set_cons_zero, List.set_cons_succ])
  refine wpAnyH_ready (rs := [9]) (by kernel_rfl) (by simp) (AllReadyH.cons rfl (fun K hK => ?_) AllReadyH.nil); go_simp
  have h9 : Below w.heap.size w ((wW.setCell ⟨w.heap.size, 1, none⟩ (.slice xF F.length cF)).setCell ⟨w.heap.size, 2, none⟩ (.slice xW W.length cW)) := (by repeat (first | exact Below.refl _ _ | assumption | refine Below.drew ?_ | refine below_drewN ?_ _ | refine Below.alloc' ?_ _ | (refine Below.setCell ?_ (by first | omega | (simp; done) | (simp; omega) | exact Below.size (by assumption) | exact Nat.le_trans (Below.size (by assumption)) (by simp)) _) | (refine Below.via' ?_ (by assumption)) | (refine Below.alloc ?_ (by first | omega | (simp; done) | (simp; omega) | exact Below.size (by assumption) | exact Nat.le_trans (Below.size (by assumption)) (by simp)) _) | (refine Below.via ?_ (by assumption) (by first | omega | (simp; done) | (simp; omega) | exact Below.size (by assumption) | exact Nat.le_trans (Below.size (by assumption)) (by simp)))))
  refine hK.out _ _ h9 (fun _ => ?_)
  clear hK K u1 u2
  (try simp only [Act.put, List.getElem_toArray, List.getElem_cons_succ, List.getElem_cons_zero, List.setIfInBounds_toArray, List.set_cons_zero, List.set_cons_succ])
  obtain ⟨X, hX⟩ : ∃ X, X = ((wW.setCell ⟨w.heap.size, 1, none⟩ (.slice xF F.length cF)).setCell ⟨w.heap.size, 2, none⟩ (.slice xW W.length cW)) := ⟨_, rfl⟩
  have qY : Wb X w.heap.size 37 #[.int .i64 l, .slice xF F.length cF, .slice xW W.length cW, .int .i64 m] := by rw [hX]; exact qX.out.put 2 _
  have zY : Wb X (w.heap.size + 1) 37 #[.int .i64 0, .slice none 0 0, .slice none 0 0, .int .i64 0] := by rw [hX]; exact ((Below.heap_setCell _ _ _ _ (by simp)).trans ((Below.heap_setCell _ _ _ _ (by simp)).trans zW.out))
  have oF : OwR X W2.heap.size wF.heap.size 3 1 (.slice xF F.length cF) F.length (iC F) := by rw [hX]; exact ((hOF.out.below hbW).set _ _ (Or.inl (by show w.heap.size < W2.heap.size; omega))).set _ _ (Or.inl (by show w.heap.size < W2.heap.size; omega))
  have oW : OwR X wF.heap.size wW.heap.size 3 1 (.slice xW W.length cW) W.length (iC W) := by rw [hX]; exact (hOW.out.set _ _ (Or.inl (by show w.heap.size < wF.heap.size; omega))).set _ _ (Or.inl (by show w.heap.size < wF.heap.size; omega))
  have sX : X.heap.size = wW.heap.size := by rw [hX]; simp
  rw [← hX]
  rw [← hX] at h9
  replace oF := Lib.hid oF
  replace oW := Lib.hid oW
  replace hX := Lib.hid hX
  have qa := qY.read 0; have qb := qY.read 1; have qc := qY.read 2; have qd := qY.read 3; have qe := qY.free 0; have qf := qY.free 1; have qg := qY.free 2; have qh := qY.free 3
  have ya := zY.read 0; have yb := zY.read 1; have yc := zY.read 2; have yd := zY.read 3; have ye := zY.free 0; have yf := zY.free 1; have yg := zY.free 2; have yh := zY.free 3
  clear qX qW zW qF z1 q1 hOF hOW hH hHF hHW h7 B2 hW2 hFh hWh qY
  refine wpAnyH_done (by kernel_rfl) ?_ _
  go_wp2_with fail
  refine bodyPost_ret (v := .agg #[.int .i64 l, .slice xF F.length cF, .slice xW W.length cW, .int .i64 m]) (by simp [results, Try.results130, go_sem, *]) rfl ⟨_, _, _, _, rfl, ⟨W2.heap.size, wF.heap.size, wF.heap.size, wW.heap.size, by omega, by simp; omega, by omega, by simp; omega, Or.inl (Nat.le_refl _), ?_, ?_⟩, ?_⟩
  repeat (refine OwR.set ?_ _ _ (Or.inl (by show w.heap.size + 1 < W2.heap.size; omega)))
  exact oF.out
  repeat (refine OwR.set ?_ _ _ (Or.inl (by show w.heap.size + 1 < wF.heap.size; omega)))
  exact oW.out
  exact (by repeat (first | exact Below.refl _ _ | assumption | refine Below.drew ?_ | refine below_drewN ?_ _ | refine Below.alloc' ?_ _ | (refine Below.setCell ?_ (by first | omega | (simp; done) | (simp; omega) | exact Below.size (by assumption) | exact Nat.le_trans (Below.size (by assumption)) (by simp)) _) | (refine Below.via' ?_ (by assumption)) | (refine Below.alloc ?_ (by first | omega | (simp; done) | (simp; omega) | exact Below.size (by assumption) | exact Nat.le_trans (Below.size (by assumption)) (by simp)) _) | (refine Below.via ?_ (by assumption) (by first | omega | (simp; done) | (simp; omega) | exact Below.size (by assumption) | exact Nat.le_trans (Below.size (by assumption)) (by simp)))))
  go_simp; refine hK.out _ _ hH (fun _ => ?_); clear hK K; (try simp only [Act.put, List.getElem_toArray, List.getElem_cons_succ, List.getElem_cons_zero, List.setIfInBounds_toArray, List.set_cons_zero, List.set_cons_succ])
  refine wpAnyH_ready (rs := [1]) (by kernel_rfl) (by simp) (AllReadyH.cons rfl (fun K hK => ?_) AllReadyH.nil); go_simp
  go_simp; refine hK.out _ _ hH (fun _ => ?_); clear hK K; (try simp only [Act.put, List.getElem_toArray, List.getElem_cons_succ, List.getElem_cons_zero, List.setIfInBounds_toArray, List.set_cons_zero, List.set_cons_succ])
  refine wpAnyH_ready (rs := [2]) (by kernel_rfl) (by simp) (AllReadyH.cons rfl (fun K hK => ?_) AllReadyH.nil); go_simp
  go_simp; refine (cloneInt_any x c F _ hmF hcF hnF (hFh.out.below (by exact (by repeat (first | exact Below.refl _ _ | assumption | refine Below.drew ?_ | refine below_drewN ?_ _ | refine Below.alloc' ?_ _ | (refine Below.setCell ?_ (by first | omega | (simp; done) | (simp; omega) | exact Below.size (by assumption) | exact Nat.le_trans (Below.size (by assumption)) (by simp)) _) | (refine Below.via' ?_ (by assumption)) | (refine Below.alloc ?_ (by first | omega | (simp; done) | (simp; omega) | exact Below.size (by assumption) | exact Nat.le_trans (Below.size (by assumption)) (by simp)) _) | (refine Below.via ?_ (by assumption) (by first | omega | (simp; done) | (simp; omega) | exact Below.size (by assumption) | exact Nat.le_trans (Below.size (by assumption)) (by simp)))))))).mono ?_; rintro e wF ⟨uF, rfl, hoF, hbF⟩; (have hOF := Lib.hid (OwR.of hoF)); (obtain ⟨xF, cF, rfl, -, -⟩ := hOF.out.form); clear hoF p1 p2; (have qF := Lib.hid (q1.out.kept hbF)); (have p1 := qF.out.read 1); (have p2 := qF.out.read 2); refine hK.out _ _ (Below.via' hH hbF) (fun hHF => ?_); clear hK K; (try simp only [Act.put, List.getElem_toArray, List.getElem_cons_succ, List.getElem_cons_zero, List.setIfInBounds_toArray, List.set_cons_zero, List.set_cons_succ])
  refine wpAnyH_take (i := 6) (v := ?_) rfl (by kernel_rfl) (by kernel_rfl) (by kernel_rfl) (fun _ _ _ h => h) (Or.inl ⟨by rfl, ?_⟩) (by assumption) ?_; rotate_left; · (intro wz hz; (skip); clear hz; go_simp; try with_reducible rfl); (try simp only [Act.put, List.getElem_toArray, List.getElem_cons_succ, List.getElem_cons_zero, List.setIfInBounds_toArray, List.set_cons_zero, List.set_cons_succ])
  refine wpAnyH_ready (rs := [5]) (by kernel_rfl) (by simp) (AllReadyH.cons rfl (fun K hK => ?_) AllReadyH.nil); go_simp
  go_simp; refine (cloneInt_any z d W _ hmW hcW hnW (hWh.out.below (by exact (by repeat (first | exact Below.refl _ _ | assumption | refine Below.drew ?_ | refine below_drewN ?_ _ | refine Below.alloc' ?_ _ | (refine Below.setCell ?_ (by first | omega | (simp; done) | (simp; omega) | exact Below.size (by assumption) | exact Nat.le_trans (Below.size (by assumption)) (by simp)) _) | (refine Below.via' ?_ (by assumption)) | (refine Below.alloc ?_ (by first | omega | (simp; done) | (simp; omega) | exact Below.size (by assumption) | exact Nat.le_trans (Below.size (by assumption)) (by simp)) _) | (refine Below.via ?_ (by assumption) (by first | omega | (simp; done) | (simp; omega) | exact Below.size (by assumption) | exact Nat.le_trans (Below.size (by assumption)) (by simp)))))))).mono ?_; rintro e wW ⟨uW, rfl, hoW, hbW⟩; (have hOW := Lib.hid (OwR.of hoW)); (obtain ⟨xW, cW, rfl, -, -⟩ := hOW.out.form); clear hoW p1 p2; refine hK.out _ _ (Below.via' hHF hbW) (fun hHW => ?_); clear hK K; (try simp only [Act.put, List.getElem_toArray, List.getElem_cons_succ, List.getElem_cons_zero, List.setIfInBounds_toArray, List.set_cons_zero, List.set_cons_succ])
  have e1 := hbF.size
  have e2 := hbW.size
  have zW := Lib.hid ((z1.out.kept hbF).kept hbW)
  have qW := Lib.hid (qF.out.kept hbW)
  have u1 := qW.out.read 1
  have u2 := qW.out.free 1
  refine wpAnyH_ready (rs := [7]) (by kernel_rfl) (by simp) (AllReadyH.cons rfl (fun K hK => ?_) AllReadyH.nil); go_simp
  have h7 : Below w.heap.size w (wW.setCell ⟨w.heap.size, 1, none⟩ (.slice xF F.length cF)) := (by repeat (first | exact Below.refl _ _ | assumption | refine Below.drew ?_ | refine below_drewN ?_ _ | refine Below.alloc' ?_ _ | (refine Below.setCell ?_ (by first | omega | (simp; done) | (simp; omega) | exact Below.size (by assumption) | exact Nat.le_trans (Below.size (by assumption)) (by simp)) _) | (refine Below.via' ?_ (by assumption)) | (refine Below.alloc ?_ (by first | omega | (simp; done) | (simp; omega) | exact Below.size (by assumption) | exact Nat.le_trans (Below.size (by assumption)) (by simp)) _) | (refine Below.via ?_ (by assumption) (by first | omega | (simp; done) | (simp; omega) | exact Below.size (by assumption) | exact Nat.le_trans (Below.size (by assumption)) (by simp)))))
  refine hK.out _ _ h7 (fun _ => ?_)
  clear hK K u1 u2
  (try simp only [Act.put, List.getElem_toArray, List.getElem_cons_succ, List.getElem_cons_zero, List.setIfInBounds_toArray, List.set_cons_zero, List.set_cons_succ])
  have qX := Lib.hid (show Wb (wW.setCell ⟨w.heap.size, 1, none⟩ (.slice xF F.length cF)) w.heap.size 37 #[.int .i64 l, .slice xF F.length cF, .slice z W.length d, .int .i64 m] from qW.out.put 1 _)
  have u1 := qX.out.read 2
  have u2 := qX.out.free 2
  refine wpAnyH_take (i := 8) (v := ?_) rfl (by kernel_rfl) (by kernel_rfl) (by kernel_rfl) (fun _ _ _ h => h) (Or.inl ⟨by rfl, ?_⟩) (by assumption) ?_; rotate_left; · (intro wz hz; (skip); clear hz; go_simp; try with_reducible rfl); (try simp only [Act.put, List.getElem_toArray, List.getElem_cons_succ, List.getElem_cons_zero, List.setIfInBounds_toArray, List.set_cons_zero, List.set_cons_succ])
  refine wpAnyH_ready (rs := [9]) (by kernel_rfl) (by simp) (AllReadyH.cons rfl (fun K hK => ?_) AllReadyH.nil); go_simp
  have h9 : Below w.heap.size w ((wW.setCell ⟨w.heap.size, 1, none⟩ (.slice xF F.length cF)).setCell ⟨w.heap.size, 2, none⟩ (.slice xW W.length cW)) := (by repeat (first | exact Below.refl _ _ | assumption | refine Below.drew ?_ | refine below_drewN ?_ _ | refine Below.alloc' ?_ _ | (refine Below.setCell ?_ (by first | omega | (simp; done) | (simp; omega) | exact Below.size (by assumption) | exact Nat.le_trans (Below.size (by assumption)) (by simp)) _) | (refine Below.via' ?_ (by assumption)) | (refine Below.alloc ?_ (by first | omega | (simp; done) | (simp; omega) | exact Below.size (by assumption) | exact Nat.le_trans (Below.size (by assumption)) (by simp)) _) | (refine Below.via ?_ (by assumption) (by first | omega | (simp; done) | (simp; omega) | exact Below.size (by assumption) | exact Nat.le_trans (Below.size (by assumption)) (by simp)))))
  refine hK.out _ _ h9 (fun _ => ?_)
  clear hK K u1 u2
  (try simp only [Act.put, List.getElem_toArray, List.getElem_cons_succ, List.getElem_cons_zero, List.setIfInBounds_toArray, List.set_cons_zero, List.set_cons_succ])
  obtain ⟨X, hX⟩ : ∃ X, X = ((wW.setCell ⟨w.heap.size, 1, none⟩ (.slice xF F.length cF)).setCell ⟨w.heap.size, 2, none⟩ (.slice xW W.length cW)) := ⟨_, rfl⟩
  have qY : Wb X w.heap.size 37 #[.int .i64 l, .slice xF F.length cF, .slice xW W.length cW, .int .i64 m] := by rw [hX]; exact qX.out.put 2 _
  have zY : Wb X (w.heap.size + 1) 37 #[.int .i64 0, .slice none 0 0, .slice none 0 0, .int .i64 0] := by rw [hX]; exact ((Below.heap_setCell _ _ _ _ (by simp)).trans ((Below.heap_setCell _ _ _ _ (by simp)).trans zW.out))
  have oF : OwR X W2.heap.size wF.heap.size 3 1 (.slice xF F.length cF) F.length (iC F) := by rw [hX]; exact ((hOF.out.below hbW).set _ _ (Or.inl (by show w.heap.size < W2.heap.size; omega))).set _ _ (Or.inl (by show w.heap.size < W2.heap.size; omega))
  have oW : OwR X wF.heap.size wW.heap.size 3 1 (.slice xW W.length cW) W.length (iC W) := by rw [hX]; exact (hOW.out.set _ _ (Or.inl (by show w.heap.size < wF.heap.size; omega))).set _ _ (Or.inl (by show w.heap.size < wF.heap.size; omega))
  have sX : X.heap.size = wW.heap.size := by rw [hX]; simp
  rw [← hX]
  rw [← hX] at h9
  replace oF := Lib.hid oF
  replace oW := Lib.hid oW
  replace hX := Lib.hid hX
  have qa := qY.read 0; have qb := qY.read 1; have qc := qY.read 2; have qd := qY.read 3; have qe := qY.free 0; have qf := qY.free 1; have qg := qY.free 2; have qh := qY.free 3
  have ya := zY.read 0; have yb := zY.read 1; have yc := zY.read 2; have yd := zY.read 3; have ye := zY.free 0; have yf := zY.free 1; have yg := zY.free 2; have yh := zY.free 3
  clear qX qW zW qF z1 q1 hOF hOW hH hHF hHW h7 B2 hW2 hFh hWh qY
  refine wpAnyH_done (by kernel_rfl) ?_ _
  go_wp2_with fail
  refine bodyPost_ret (v := .agg #[.int .i64 l, .slice xF F.length cF, .slice xW W.length cW, .int .i64 m]) (by simp [results, Try.results130, go_sem, *]) rfl ⟨_, _, _, _, rfl, ⟨W2.heap.size, wF.heap.size, wF.heap.size, wW.heap.size, by omega, by simp; omega, by omega, by simp; omega, Or.inl (Nat.le_refl _), ?_, ?_⟩, ?_⟩
  repeat (refine OwR.set ?_ _ _ (Or.inl (by show w.heap.size + 1 < W2.heap.size; omega)))
  exact oF.out
  repeat (refine OwR.set ?_ _ _ (Or.inl (by show w.heap.size + 1 < wF.heap.size; omega)))
  exact oW.out
  exact (by repeat (first | exact Below.refl _ _ | assumption | refine Below.drew ?_ | refine below_drewN ?_ _ | refine Below.alloc' ?_ _ | (refine Below.setCell ?_ (by first | omega | (simp; done) | (simp; omega) | exact Below.size (by assumption) | exact Nat.le_trans (Below.size (by assumption)) (by simp)) _) | (refine Below.via' ?_ (by assumption)) | (refine Below.alloc ?_ (by first | omega | (simp; done) | (simp; omega) | exact Below.size (by assumption) | exact Nat.le_trans (Below.size (by assumption)) (by simp)) _) | (refine Below.via ?_ (by assumption) (by first | omega | (simp; done) | (simp; omega) | exact Below.size (by assumption) | exact Nat.le_trans (Below.size (by assumption)) (by simp)))))
end Go.Proofs.Ytgkaalonmkcclaa

namespace Go.Proofs.Ytgkaalonmkcclaa
open Go.RowKit
set_option maxRecDepth 100000

/-- Conditions and values that go with each other. -/
def TwF (W V : List Int) : Prop := W.length = V.length ∧ ∀ i, i < W.length → ∃ x v, W[i]? = some x ∧ V[i]? = some v ∧ 0 ≤ x ∧ x ≤ 255 ∧ 0 ≤ v ∧ v ≤ 8
theorem tw_fine {S : List (ByteArray × Int)} {W V : List Int} (hs : schB S = true) (hw : twB S W = true) (hf : fitB S V = true) : TwF W V := by
  have h1 := tw_len hw
  have h2 := fit_len hf
  refine ⟨by omega, fun i hi => ?_⟩
  have hW : W[i]? = some W[i] := List.getElem?_eq_getElem hi
  have hV : V[i]? = some (V[i]'(by omega)) := List.getElem?_eq_getElem _
  obtain ⟨nm, lv, hS, l1, l2, x0, -, x1⟩ := tw_get hs hw hW
  have := fit_get hf hS hV
  exact ⟨_, _, hW, hV, x0, x1, this.1, by omega⟩
theorem tw_pow {lv : Int} (h : 2 ≤ lv ∧ lv ≤ 8) : wrap64 (wrap64 (2 ^ lv.toNat) - 1) = 2 ^ lv.toNat - 1 := fl_eq h
theorem tw_kd {lv x : Int} (hx : x ≠ 0) : (kdZ lv x == 0) = !inB x 0 (2 ^ lv.toNat - 1) := by
  cases h : inB x 0 (2 ^ lv.toNat - 1)
  · rw [kdZ_no (by rw [inB_no] at h; unfold flZ; omega)]
    rfl
  · rw [inB_iff] at h
    have := kdZ_yes (lv := lv) (x := x) ⟨by omega, h.2⟩
    show (kdZ lv x == 0) = false
    rw [beq_eq_false_iff_ne]
    omega

set_option maxHeartbeats 2000000 in
theorem areCond_any (x y : Option Addr) (c1 c2 : Nat) (S : List (ByteArray × Int)) (W : List Int) (w : World) (hs : schB S = true) (hm : S.length ≤ 1048576) (hS : Rd w x (vC S)) (hW : IIn w y W) :
    Calls Try.prog 106 #[.slice x S.length c1, .slice y W.length c2] w fun e w' => e = .returned (.bool (twB S W)) ∧ Below w.heap.size w w' := by
  have hWl := hW.1
  have hWh := Lib.hid hW.2.2
  clear hW
  have hSh := Lib.hid hS
  clear hS
  have hsh := Lib.hid hs
  clear hs
  by_cases hl : W.length = S.length
  · have he1 : ((W.length : Int) == (S.length : Int)) = true := by rw [beq_iff_eq]; omega
    have he2 : ((W.length : Int) != (S.length : Int)) = false := by show (!((W.length : Int) == (S.length : Int))) = false; rw [he1]; rfl
    replace hl := Lib.hid hl
    go_enter Try.func106, Try.ntmps106
    go_wp2
    clear he1 he2
    go_loopw [14] (fun c wr => ∃ i : Nat, i ≤ S.length ∧ c = .int .i64 i ∧ Hid (∀ j, j < i → ∃ nm lv x, S[j]? = some (nm, lv) ∧ W[j]? = some x ∧ inB x 0 (2 ^ lv.toNat - 1) = true) ∧ Below w.heap.size w wr) (fun c _ => S.length - (intOf c).toNat)
    case atStart => exact ⟨0, by omega, rfl, (fun j hj => absurd hj (by omega)), Below.refl _ _⟩
    case round =>
      obtain ⟨i, hi, rfl, hall, hb⟩ := hrel
      by_cases hlt : i < S.length
      · obtain ⟨bl, off, nm, lv, rfl, hbl, hSi, hc0, hc1⟩ := (hSh.out.below hb).var hlt
        obtain ⟨bl2, off2, v, rfl, hbl2, hWi, hc2⟩ := (hWh.out.below hb).int (i := i) (by have := hl.out; omega)
        have l12 := schB_lv hsh.out hSi
        have hlt' : (i : Int) < (S.length : Int) := by omega
        have hlt2 : (i : Int) < (W.length : Int) := by have := hl.out; omega
        have hi0 : (0 : Int) ≤ (i : Int) := by omega
        by_cases h0 : v = 0
        · have hin : inB v 0 (2 ^ lv.toNat - 1) = true := by
            rw [inB_iff]
            have := flZ_bd l12
            unfold flZ at this
            omega
          have hin := Lib.hid hin
          have hz : (v != 0) = false := by rw [h0]; rfl
          replace h0 := Lib.hid h0
          replace hSi := Lib.hid hSi
          replace hWi := Lib.hid hWi
          go_wp2
          first | go_quiet (fail) | fail
          go_wp2
          go_roundw
          case rel =>
            refine ⟨i + 1, by omega, by go_num, fun j hj => ?_, (by repeat (first | exact Below.refl _ _ | assumption | refine Below.drew ?_ | refine below_drewN ?_ _ | refine Below.alloc' ?_ _ | (refine Below.setCell ?_ (by first | omega | (simp; done) | (simp; omega) | exact Below.size (by assumption) | exact Nat.le_trans (Below.size (by assumption)) (by simp)) _) | (refine Below.via' ?_ (by assumption)) | (refine Below.alloc ?_ (by first | omega | (simp; done) | (simp; omega) | exact Below.size (by assumption) | exact Nat.le_trans (Below.size (by assumption)) (by simp)) _) | (refine Below.via ?_ (by assumption) (by first | omega | (simp; done) | (simp; omega) | exact Below.size (by assumption) | exact Nat.le_trans (Below.size (by assumption)) (by simp)))))⟩
            rcases Nat.lt_or_ge j i with hj2 | hj2
            · exact hall.out j hj2
            · obtain rfl : j = i := by omega
              exact ⟨nm, lv, v, hSi.out, hWi.out, hin.out⟩
          case measure => simp [intOf]; omega
        have hz : (v != 0) = true := by simpa using h0
        have hkd := tw_kd (lv := lv) h0
        replace h0 := Lib.hid h0
        cases hin : inB v 0 (2 ^ lv.toNat - 1)
        · have hv := Lib.hid (tw_bad hSi hWi hin)
          rw [hin] at hkd
          have hkd : (kdZ lv v == 0) = true := hkd
          replace hSi := Lib.hid hSi
          replace hWi := Lib.hid hWi
          replace hin := Lib.hid hin
          go_wp2
          go_region_held3 (fun w' => Below ((wr.alloc (.cells #[.string nm, .int .i64 lv] 86))).heap.size ((wr.alloc (.cells #[.string nm, .int .i64 lv] 86))) w' ∧ (∀ b o, b < ((wr.alloc (.cells #[.string nm, .int .i64 lv] 86))).heap.size → w'.cell? ⟨b, o, none⟩ = ((wr.alloc (.cells #[.string nm, .int .i64 lv] 86))).cell? ⟨b, o, none⟩)) (first | exact keep_of (Below.refl _ _) | ((try go_split_ands); exact keep_of (by repeat (first | exact Below.refl _ _ | assumption | refine Below.drew ?_ | refine below_drewN ?_ _ | refine Below.alloc' ?_ _ | (refine Below.setCell ?_ (by first | omega | (simp; done) | (simp; omega) | exact Below.size (by assumption) | exact Nat.le_trans (Below.size (by assumption)) (by simp)) _) | (refine Below.via' ?_ (by assumption)) | (refine Below.alloc ?_ (by first | omega | (simp; done) | (simp; omega) | exact Below.size (by assumption) | exact Nat.le_trans (Below.size (by assumption)) (by simp)) _) | (refine Below.via ?_ (by assumption) (by first | omega | (simp; done) | (simp; omega) | exact Below.size (by assumption) | exact Nat.le_trans (Below.size (by assumption)) (by simp))))))) ((go_at_call 131; refine (kindOfSet_any _ _ _ _ l12).mono ?_; rintro e w1 ⟨rfl, hb1⟩)); rename_i hH; obtain ⟨hb1, hcl1⟩ := hH; have hz1 := hb1.size; (try simp at hz1); (try (have hly1 := Nat.lt_of_succ_le hz1)); (try (have hlx1 := Nat.lt_of_succ_lt hly1)); (try (have hlw1 := Nat.lt_of_succ_lt hlx1)); (try (have hle1 := Nat.le_of_lt hly1)); (try (have hya1 : w.heap.size < w1.heap.size := by omega)); (try (have hyb1 : w.heap.size + 1 < w1.heap.size := by omega)); (try (have hyc1 : w.heap.size + 1 + 1 < w1.heap.size := by omega)); (try (have hyd1 : wa.heap.size < w1.heap.size := by omega))
          go_wp2
          go_ret
          exact ⟨ret_bool hv.out.symm, (by repeat (first | exact Below.refl _ _ | assumption | refine Below.drew ?_ | refine below_drewN ?_ _ | refine Below.alloc' ?_ _ | (refine Below.setCell ?_ (by first | omega | (simp; done) | (simp; omega) | exact Below.size (by assumption) | exact Nat.le_trans (Below.size (by assumption)) (by simp)) _) | (refine Below.via' ?_ (by assumption)) | (refine Below.alloc ?_ (by first | omega | (simp; done) | (simp; omega) | exact Below.size (by assumption) | exact Nat.le_trans (Below.size (by assumption)) (by simp)) _) | (refine Below.via ?_ (by assumption) (by first | omega | (simp; done) | (simp; omega) | exact Below.size (by assumption) | exact Nat.le_trans (Below.size (by assumption)) (by simp)))))⟩
        · rw [hin] at hkd
          have hkd : (kdZ lv v == 0) = false := hkd
          replace hSi := Lib.hid hSi
          replace hWi := Lib.hid hWi
          replace hin := Lib.hid hin
          go_wp2
          go_region_held3 (fun w' => Below ((wr.alloc (.cells #[.string nm, .int .i64 lv] 86))).heap.size ((wr.alloc (.cells #[.string nm, .int .i64 lv] 86))) w' ∧ (∀ b o, b < ((wr.alloc (.cells #[.string nm, .int .i64 lv] 86))).heap.size → w'.cell? ⟨b, o, none⟩ = ((wr.alloc (.cells #[.string nm, .int .i64 lv] 86))).cell? ⟨b, o, none⟩)) (first | exact keep_of (Below.refl _ _) | ((try go_split_ands); exact keep_of (by repeat (first | exact Below.refl _ _ | assumption | refine Below.drew ?_ | refine below_drewN ?_ _ | refine Below.alloc' ?_ _ | (refine Below.setCell ?_ (by first | omega | (simp; done) | (simp; omega) | exact Below.size (by assumption) | exact Nat.le_trans (Below.size (by assumption)) (by simp)) _) | (refine Below.via' ?_ (by assumption)) | (refine Below.alloc ?_ (by first | omega | (simp; done) | (simp; omega) | exact Below.size (by assumption) | exact Nat.le_trans (Below.size (by assumption)) (by simp)) _) | (refine Below.via ?_ (by assumption) (by first | omega | (simp; done) | (simp; omega) | exact Below.size (by assumption) | exact Nat.le_trans (Below.size (by assumption)) (by simp))))))) ((go_at_call 131; refine (kindOfSet_any _ _ _ _ l12).mono ?_; rintro e w1 ⟨rfl, hb1⟩)); rename_i hH; obtain ⟨hb1, hcl1⟩ := hH; have hz1 := hb1.size; (try simp at hz1); (try (have hly1 := Nat.lt_of_succ_le hz1)); (try (have hlx1 := Nat.lt_of_succ_lt hly1)); (try (have hlw1 := Nat.lt_of_succ_lt hlx1)); (try (have hle1 := Nat.le_of_lt hly1)); (try (have hya1 : w.heap.size < w1.heap.size := by omega)); (try (have hyb1 : w.heap.size + 1 < w1.heap.size := by omega)); (try (have hyc1 : w.heap.size + 1 + 1 < w1.heap.size := by omega)); (try (have hyd1 : wa.heap.size < w1.heap.size := by omega))
          go_wp2
          go_roundw
          case rel =>
            refine ⟨i + 1, by omega, by go_num, fun j hj => ?_, (by repeat (first | exact Below.refl _ _ | assumption | refine Below.drew ?_ | refine below_drewN ?_ _ | refine Below.alloc' ?_ _ | (refine Below.setCell ?_ (by first | omega | (simp; done) | (simp; omega) | exact Below.size (by assumption) | exact Nat.le_trans (Below.size (by assumption)) (by simp)) _) | (refine Below.via' ?_ (by assumption)) | (refine Below.alloc ?_ (by first | omega | (simp; done) | (simp; omega) | exact Below.size (by assumption) | exact Nat.le_trans (Below.size (by assumption)) (by simp)) _) | (refine Below.via ?_ (by assumption) (by first | omega | (simp; done) | (simp; omega) | exact Below.size (by assumption) | exact Nat.le_trans (Below.size (by assumption)) (by simp)))))⟩
            rcases Nat.lt_or_ge j i with hj2 | hj2
            · exact hall.out j hj2
            · obtain rfl : j = i := by omega
              exact ⟨nm, lv, v, hSi.out, hWi.out, hin.out⟩
          case measure => simp [intOf]; omega
      · have hij : i = S.length := by omega
        subst hij
        have hv := Lib.hid (tw_all hl.out hall.out)
        clear hall
        go_wp2
        go_ret
        exact ⟨ret_bool hv.out.symm, (by repeat (first | exact Below.refl _ _ | assumption | refine Below.drew ?_ | refine below_drewN ?_ _ | refine Below.alloc' ?_ _ | (refine Below.setCell ?_ (by first | omega | (simp; done) | (simp; omega) | exact Below.size (by assumption) | exact Nat.le_trans (Below.size (by assumption)) (by simp)) _) | (refine Below.via' ?_ (by assumption)) | (refine Below.alloc ?_ (by first | omega | (simp; done) | (simp; omega) | exact Below.size (by assumption) | exact Nat.le_trans (Below.size (by assumption)) (by simp)) _) | (refine Below.via ?_ (by assumption) (by first | omega | (simp; done) | (simp; omega) | exact Below.size (by assumption) | exact Nat.le_trans (Below.size (by assumption)) (by simp)))))⟩
  · have hv := Lib.hid (tw_no hl)
    have hne : ((W.length : Int) == (S.length : Int)) = false := by rw [beq_eq_false_iff_ne]; omega
    go_enter Try.func106, Try.ntmps106
    go_wp2
    go_ret
    exact ⟨ret_bool hv.out.symm, (by repeat (first | exact Below.refl _ _ | assumption | refine Below.drew ?_ | refine below_drewN ?_ _ | refine Below.alloc' ?_ _ | (refine Below.setCell ?_ (by first | omega | (simp; done) | (simp; omega) | exact Below.size (by assumption) | exact Nat.le_trans (Below.size (by assumption)) (by simp)) _) | (refine Below.via' ?_ (by assumption)) | (refine Below.alloc ?_ (by first | omega | (simp; done) | (simp; omega) | exact Below.size (by assumption) | exact Nat.le_trans (Below.size (by assumption)) (by simp)) _) | (refine Below.via ?_ (by assumption) (by first | omega | (simp; done) | (simp; omega) | exact Below.size (by assumption) | exact Nat.le_trans (Below.size (by assumption)) (by simp)))))⟩

set_option maxHeartbeats 2000000 in
theorem uWhere_any (x y : Option Addr) (c1 c2 : Nat) (S : List (ByteArray × Int)) (W : List Int) (w : World) (hs : schB S = true) (hm : S.length ≤ 1048576) (hS : Rd w x (vC S)) (hW : IIn w y W) :
    Calls Try.prog 102 #[.slice x S.length c1, .slice y W.length c2] w fun e w' => e = .returned (.bool (twB S W)) ∧ Below w.heap.size w w' := by
  have hWl := hW.1
  have hWh := Lib.hid hW.2.2
  clear hW
  have hSh := Lib.hid hS
  clear hS
  have hsh := Lib.hid hs
  clear hs
  by_cases hl : W.length = S.length
  · have he1 : ((W.length : Int) == (S.length : Int)) = true := by rw [beq_iff_eq]; omega
    have he2 : ((W.length : Int) != (S.length : Int)) = false := by show (!((W.length : Int) == (S.length : Int))) = false; rw [he1]; rfl
    replace hl := Lib.hid hl
    go_enter Try.func102, Try.ntmps102
    go_wp2
    clear he1 he2
    go_loopw [14] (fun c wr => ∃ i : Nat, i ≤ S.length ∧ c = .int .i64 i ∧ Hid (∀ j, j < i → ∃ nm lv x, S[j]? = some (nm, lv) ∧ W[j]? = some x ∧ inB x 0 (2 ^ lv.toNat - 1) = true) ∧ Below w.heap.size w wr) (fun c _ => S.length - (intOf c).toNat)
    case atStart => exact ⟨0, by omega, rfl, (fun j hj => absurd hj (by omega)), Below.refl _ _⟩
    case round =>
      obtain ⟨i, hi, rfl, hall, hb⟩ := hrel
      by_cases hlt : i < S.length
      · obtain ⟨bl, off, nm, lv, rfl, hbl, hSi, hc0, hc1⟩ := (hSh.out.below hb).var hlt
        obtain ⟨bl2, off2, v, rfl, hbl2, hWi, hc2⟩ := (hWh.out.below hb).int (i := i) (by have := hl.out; omega)
        have l12 := schB_lv hsh.out hSi
        have hpw := tw_pow l12
        have l1 := l12.1
        have l2 := l12.2
        have hlt' : (i : Int) < (S.length : Int) := by omega
        have hlt2 : (i : Int) < (W.length : Int) := by have := hl.out; omega
        have hi0 : (0 : Int) ≤ (i : Int) := by omega
        have hcv : IntKind.u64.wrap lv = lv := by rw [show IntKind.u64.wrap lv = lv % 18446744073709551616 by simp [IntKind.wrap, IntKind.bits, IntKind.signed]]; omega
        cases hin : inB v 0 (2 ^ lv.toNat - 1)
        · have hv := Lib.hid (tw_bad hSi hWi hin)
          rw [← hpw] at hin
          replace hpw := Lib.hid hpw
          replace hSi := Lib.hid hSi
          replace hWi := Lib.hid hWi
          go_wp2
          go_quiet (first | (go_at_call 79; exact Calls.quiet_of_same ((l1In_any _ _ _ _).mono fun _ _ h => ⟨h.1, h.2.symm⟩)))
          go_wp2
          go_ret
          exact ⟨ret_bool hv.out.symm, (by repeat (first | exact Below.refl _ _ | assumption | refine Below.drew ?_ | refine below_drewN ?_ _ | refine Below.alloc' ?_ _ | (refine Below.setCell ?_ (by first | omega | (simp; done) | (simp; omega) | exact Below.size (by assumption) | exact Nat.le_trans (Below.size (by assumption)) (by simp)) _) | (refine Below.via' ?_ (by assumption)) | (refine Below.alloc ?_ (by first | omega | (simp; done) | (simp; omega) | exact Below.size (by assumption) | exact Nat.le_trans (Below.size (by assumption)) (by simp)) _) | (refine Below.via ?_ (by assumption) (by first | omega | (simp; done) | (simp; omega) | exact Below.size (by assumption) | exact Nat.le_trans (Below.size (by assumption)) (by simp)))))⟩
        · have hin2 := Lib.hid hin
          rw [← hpw] at hin
          replace hpw := Lib.hid hpw
          replace hSi := Lib.hid hSi
          replace hWi := Lib.hid hWi
          go_wp2
          go_quiet (first | (go_at_call 79; exact Calls.quiet_of_same ((l1In_any _ _ _ _).mono fun _ _ h => ⟨h.1, h.2.symm⟩)))
          go_wp2
          go_roundw
          case rel =>
            refine ⟨i + 1, by omega, by go_num, fun j hj => ?_, (by repeat (first | exact Below.refl _ _ | assumption | refine Below.drew ?_ | refine below_drewN ?_ _ | refine Below.alloc' ?_ _ | (refine Below.setCell ?_ (by first | omega | (simp; done) | (simp; omega) | exact Below.size (by assumption) | exact Nat.le_trans (Below.size (by assumption)) (by simp)) _) | (refine Below.via' ?_ (by assumption)) | (refine Below.alloc ?_ (by first | omega | (simp; done) | (simp; omega) | exact Below.size (by assumption) | exact Nat.le_trans (Below.size (by assumption)) (by simp)) _) | (refine Below.via ?_ (by assumption) (by first | omega | (simp; done) | (simp; omega) | exact Below.size (by assumption) | exact Nat.le_trans (Below.size (by assumption)) (by simp)))))⟩
            rcases Nat.lt_or_ge j i with hj2 | hj2
            · exact hall.out j hj2
            · obtain rfl : j = i := by omega
              exact ⟨nm, lv, v, hSi.out, hWi.out, hin2.out⟩
          case measure => simp [intOf]; omega
      · have hij : i = S.length := by omega
        subst hij
        have hv := Lib.hid (tw_all hl.out hall.out)
        clear hall
        go_wp2
        go_ret
        exact ⟨ret_bool hv.out.symm, (by repeat (first | exact Below.refl _ _ | assumption | refine Below.drew ?_ | refine below_drewN ?_ _ | refine Below.alloc' ?_ _ | (refine Below.setCell ?_ (by first | omega | (simp; done) | (simp; omega) | exact Below.size (by assumption) | exact Nat.le_trans (Below.size (by assumption)) (by simp)) _) | (refine Below.via' ?_ (by assumption)) | (refine Below.alloc ?_ (by first | omega | (simp; done) | (simp; omega) | exact Below.size (by assumption) | exact Nat.le_trans (Below.size (by assumption)) (by simp)) _) | (refine Below.via ?_ (by assumption) (by first | omega | (simp; done) | (simp; omega) | exact Below.size (by assumption) | exact Nat.le_trans (Below.size (by assumption)) (by simp)))))⟩
  · have hv := Lib.hid (tw_no hl)
    have hne : ((W.length : Int) == (S.length : Int)) = false := by rw [beq_eq_false_iff_ne]; omega
    go_enter Try.func102, Try.ntmps102
    go_wp2
    go_ret
    exact ⟨ret_bool hv.out.symm, (by repeat (first | exact Below.refl _ _ | assumption | refine Below.drew ?_ | refine below_drewN ?_ _ | refine Below.alloc' ?_ _ | (refine Below.setCell ?_ (by first | omega | (simp; done) | (simp; omega) | exact Below.size (by assumption) | exact Nat.le_trans (Below.size (by assumption)) (by simp)) _) | (refine Below.via' ?_ (by assumption)) | (refine Below.alloc ?_ (by first | omega | (simp; done) | (simp; omega) | exact Below.size (by assumption) | exact Nat.le_trans (Below.size (by assumption)) (by simp)) _) | (refine Below.via ?_ (by assumption) (by first | omega | (simp; done) | (simp; omega) | exact Below.size (by assumption) | exact Nat.le_trans (Below.size (by assumption)) (by simp)))))⟩
end Go.Proofs.Ytgkaalonmkcclaa

namespace Go.Proofs.Ytgkaalonmkcclaa
open Go.RowKit
set_option maxRecDepth 100000

set_option maxHeartbeats 1000000 in
theorem l1Has_any (y : Option Addr) (c : Nat) (L : List Int) (n : Int) (w : World) (hL : IIn w y L) :
    Calls Try.prog 91 #[.slice y L.length c, .int .i64 n] w fun e w' => e = .returned (.bool (L.contains n)) ∧ w = w' := by
  have hLh := Lib.hid hL
  have hLl := hL.1
  clear hL
  go_enter Try.func91, Try.ntmps91
  go_wp2
  go_loopw [9] (fun c wr => ∃ i : Nat, i ≤ L.length ∧ c = .int .i64 i ∧ Hid (∀ j, j < i → ¬ L[j]? = some n) ∧ w = wr) (fun c _ => L.length - (intOf c).toNat)
  case atStart => exact ⟨0, by omega, rfl, (fun j hj => absurd hj (by omega)), rfl⟩
  case round =>
    obtain ⟨i, hi, rfl, hall, rfl⟩ := hrel
    by_cases hlt : i < L.length
    · obtain ⟨bl, off, v, rfl, hbl, hLi, hc0⟩ := hLh.out.2.2.int hlt
      have hLih := Lib.hid hLi
      have hlt' : (i : Int) < (L.length : Int) := by omega
      have hi0 : (0 : Int) ≤ (i : Int) := by omega
      clear hLi
      by_cases he : v = n
      · have hv : Hid (L.contains n = true) := by unfold Hid; rw [List.contains_iff_mem, ← he]; exact List.mem_of_getElem? hLih.out
        have heb : (v == n) = true := by rw [beq_iff_eq]; exact he
        replace he := Lib.hid he
        go_wp2
        go_ret
        exact ⟨ret_bool hv.out.symm, rfl⟩
      · have heb : (v == n) = false := by rw [beq_eq_false_iff_ne]; exact he
        have hne : Hid (¬ L[i]? = some n) := by unfold Hid; rw [hLih.out]; intro h; exact he (Option.some.inj h)
        replace he := Lib.hid he
        go_wp2
        go_roundw
        case rel =>
          refine ⟨i + 1, by omega, by go_num, fun j hj => ?_, by first | rfl | trivial⟩
          rcases Nat.lt_or_ge j i with hj2 | hj2
          · exact hall.out j hj2
          · obtain rfl : j = i := by omega
            exact hne.out
        case measure => simp [intOf]; omega
    · have hij : i = L.length := by omega
      subst hij
      have hv : Hid (L.contains n = false) := by
        unfold Hid
        cases h : L.contains n with
        | false => rfl
        | true =>
          rw [List.contains_iff_mem] at h
          obtain ⟨j, hj, e⟩ := List.getElem_of_mem h
          exact absurd (by rw [List.getElem?_eq_getElem hj, e]) (hall.out j hj)
      clear hall
      go_wp2
      go_ret
      exact ⟨ret_bool hv.out.symm, rfl⟩
/-- What slices.Index tells of a list and a number. -/
def ixP (L : List Int) (n k : Int) : Prop := -1 ≤ k ∧ k < 1048577 ∧ decide (0 ≤ k) = L.contains n
set_option maxHeartbeats 1000000 in
theorem index_any (y : Option Addr) (c : Nat) (L : List Int) (n : Int) (w : World) (hL : IIn w y L) :
    Calls Try.prog 112 #[.slice y L.length c, .int .i64 n] w fun e w' => ∃ k, e = .returned (.int .i64 k) ∧ ixP L n k ∧ w = w' := by
  have hLh := Lib.hid hL
  have hLl := hL.1
  clear hL
  go_enter Try.func112, Try.ntmps112
  go_wp2
  go_loopw [8] (fun c wr => ∃ i : Nat, i ≤ L.length ∧ c = .int .i64 i ∧ Hid (∀ j, j < i → ¬ L[j]? = some n) ∧ w = wr) (fun c _ => L.length - (intOf c).toNat)
  case atStart => exact ⟨0, by omega, rfl, (fun j hj => absurd hj (by omega)), rfl⟩
  case round =>
    obtain ⟨i, hi, rfl, hall, rfl⟩ := hrel
    by_cases hlt : i < L.length
    · obtain ⟨bl, off, v, rfl, hbl, hLi, hc0⟩ := hLh.out.2.2.int hlt
      have hLih := Lib.hid hLi
      have hlt' : (i : Int) < (L.length : Int) := by omega
      have hi0 : (0 : Int) ≤ (i : Int) := by omega
      clear hLi
      by_cases he : v = n
      · have hv : Hid (L.contains n = true) := by unfold Hid; rw [List.contains_iff_mem, ← he]; exact List.mem_of_getElem? hLih.out
        have heb : (n == v) = true := by rw [beq_iff_eq]; exact he.symm
        replace he := Lib.hid he
        go_wp2
        go_ret
        exact ⟨_, rfl, ⟨by omega, by omega, by rw [hv.out]; exact decide_eq_true (by omega)⟩, rfl⟩
      · have heb : (n == v) = false := by rw [beq_eq_false_iff_ne]; exact fun h => he h.symm
        have hne : Hid (¬ L[i]? = some n) := by unfold Hid; rw [hLih.out]; intro h; exact he (Option.some.inj h)
        replace he := Lib.hid he
        go_wp2
        go_roundw
        case rel =>
          refine ⟨i + 1, by omega, by go_num, fun j hj => ?_, by first | rfl | trivial⟩
          rcases Nat.lt_or_ge j i with hj2 | hj2
          · exact hall.out j hj2
          · obtain rfl : j = i := by omega
            exact hne.out
        case measure => simp [intOf]; omega
    · have hij : i = L.length := by omega
      subst hij
      have hv : Hid (L.contains n = false) := by
        unfold Hid
        cases h : L.contains n with
        | false => rfl
        | true =>
          rw [List.contains_iff_mem] at h
          obtain ⟨j, hj, e⟩ := List.getElem_of_mem h
          exact absurd (by rw [List.getElem?_eq_getElem hj, e]) (hall.out j hj)
      clear hall
      go_wp2
      go_ret
      exact ⟨_, rfl, ⟨by omega, by omega, by rw [hv.out]; exact decide_eq_false (by omega)⟩, rfl⟩
theorem contains_any (y : Option Addr) (c : Nat) (L : List Int) (n : Int) (w : World) (hL : IIn w y L) :
    Calls Try.prog 76 #[.slice y L.length c, .int .i64 n] w fun e w' => e = .returned (.bool (L.contains n)) ∧ w = w' := by
  go_enter Try.func76, Try.ntmps76
  go_wp2_with fail
  refine (index_any _ _ L n _ hL).mono ?_
  rintro e w1 ⟨k, rfl, ⟨h0, h1, h2⟩, rfl⟩
  have hv := Lib.hid h2
  clear h2
  go_wp2
  go_ret
  exact ⟨ret_bool hv.out, rfl⟩
end Go.Proofs.Ytgkaalonmkcclaa
