import Derived.Test.YtgkaalonmkcclaaPQhB
import Derived.Test.YtgkaalonmkcclaaPts
import Derived.Test.YtgkaalonmkcclaaRecL
import Derived.Test.YtgkaalonmkcclaaSchO
import Derived.Deep.Strs
import Derived.Test.YtgkaalonmkcclaaGeoL
import Derived.Test.YtgkaalonmkcclaaRecM
import Derived.Test.YtgkaalonmkcclaaEdG
namespace Go.Proofs.Ytgkaalonmkcclaa
open Go.RowKit

/-- The variables that a list names; the values of these. -/
def tbS (S : List (ByteArray × Int)) (F : List Int) : List (ByteArray × Int) := F.map fun i => S.getD i.toNat (⟨#[]⟩, 0)
def tbV (V : List Int) (F : List Int) : List Int := F.map fun i => V.getD i.toNat 0
theorem tbS_len (S : List (ByteArray × Int)) (F : List Int) : (tbS S F).length = F.length := by unfold tbS; rw [List.length_map]
theorem tbV_len (V F : List Int) : (tbV V F).length = F.length := by unfold tbV; rw [List.length_map]
theorem tbS_at {S : List (ByteArray × Int)} {F : List Int} {k : Nat} {i : Int} {p : ByteArray × Int} (h : F[k]? = some i) (hp : S[i.toNat]? = some p) : (tbS S F)[k]? = some p := by
  unfold tbS
  rw [List.getElem?_map, h]
  simp [List.getD_eq_getElem?_getD, hp]
theorem tbV_at {V F : List Int} {k : Nat} {i v : Int} (h : F[k]? = some i) (hp : V[i.toNat]? = some v) : (tbV V F)[k]? = some v := by
  unfold tbV
  rw [List.getElem?_map, h]
  simp [List.getD_eq_getElem?_getD, hp]
theorem tbS_snoc (S : List (ByteArray × Int)) {F : List Int} {k : Nat} {i : Int} {p : ByteArray × Int} (h : F[k]? = some i) (hp : S[i.toNat]? = some p) : tbS S (F.take (k + 1)) = tbS S (F.take k) ++ [p] := by
  unfold tbS
  rw [take_snoc h, List.map_append]
  simp [List.getD_eq_getElem?_getD, hp]
theorem tbV_snoc (V : List Int) {F : List Int} {k : Nat} {i v : Int} (h : F[k]? = some i) (hp : V[i.toNat]? = some v) : tbV V (F.take (k + 1)) = tbV V (F.take k) ++ [v] := by
  unfold tbV
  rw [take_snoc h, List.map_append]
  simp [List.getD_eq_getElem?_getD, hp]
theorem rsU_pw {n : Int} : ∀ {b : Int} {F : List Int}, rsU n b F = true → F.Pairwise (fun a c => a < c)
  | _, [], _ => List.Pairwise.nil
  | b, v :: r, h => by
    unfold rsU at h
    rw [Bool.and_eq_true, decide_eq_true_eq] at h
    exact List.Pairwise.cons (fun u hu => by have := rs_bd h.2 u hu; omega) (rsU_pw h.2)
theorem rsU_len {n : Int} : ∀ {b : Int} {F : List Int}, rsU n b F = true → 0 ≤ b → b ≤ n → (F.length : Int) ≤ n - b
  | b, [], _, _, h => by simp; omega
  | b, v :: r, h, h0, h1 => by
    unfold rsU at h
    rw [Bool.and_eq_true, decide_eq_true_eq] at h
    have := rsU_len h.2 (by omega) (by omega)
    simp only [List.length_cons]
    omega
theorem rsB_len {S : List (ByteArray × Int)} {F : List Int} (h : rsB S F = true) : F.length ≤ S.length := by
  have := rsU_len h (by omega) (by omega)
  omega
theorem rsB_bd {S : List (ByteArray × Int)} {F : List Int} (h : rsB S F = true) {k : Nat} {i : Int} (hk : F[k]? = some i) : 0 ≤ i ∧ i < S.length ∧ i.toNat < S.length := by
  have := rs_bd h i (List.mem_of_getElem? hk)
  omega
theorem tbS_get {S : List (ByteArray × Int)} {F : List Int} (h : rsB S F = true) {k : Nat} {p : ByteArray × Int} (hk : (tbS S F)[k]? = some p) : ∃ i : Int, F[k]? = some i ∧ S[i.toNat]? = some p := by
  unfold tbS at hk
  rw [List.getElem?_map, Option.map_eq_some_iff] at hk
  obtain ⟨i, hi, e⟩ := hk
  have := (rsB_bd h hi).2.2
  rw [List.getD_eq_getElem?_getD, List.getElem?_eq_getElem this, Option.getD_some] at e
  exact ⟨i, hi, by rw [List.getElem?_eq_getElem this, e]⟩
theorem tbS_ok {S : List (ByteArray × Int)} {F : List Int} (hs : schB S = true) (h : rsB S F = true) : PtS (tbS S F) := by
  cases F with
  | nil => exact Or.inl rfl
  | cons f r =>
    right
    have hl := rsB_len h
    have h6 := schB_len hs
    rw [schB_of (by rw [tbS_len]; simp) (by rw [tbS_len]; omega), upB_iff]
    refine ⟨fun p hp => ?_, ?_⟩
    · obtain ⟨k, hk, e⟩ := List.getElem_of_mem hp
      obtain ⟨i, -, hi⟩ := tbS_get h (k := k) (p := p) (by rw [List.getElem?_eq_getElem hk, e])
      exact schB_va hs (List.mem_of_getElem? hi)
    · have hpw : (f :: r).Pairwise (fun a c => a < c) := rsU_pw h
      have hnd := ((upB_iff S).1 (schB_up hs)).2
      unfold ky tbS
      rw [List.map_map]
      show ((f :: r).map _).Pairwise (· ≠ ·)
      rw [List.pairwise_map]
      refine hpw.imp_of_mem fun {a c} ha hc hlt heq => ?_
      obtain ⟨ka, hka, ea⟩ := List.getElem_of_mem ha
      obtain ⟨kc, hkc, ec⟩ := List.getElem_of_mem hc
      have ba := rsB_bd h (k := ka) (i := a) (by rw [List.getElem?_eq_getElem hka, ea])
      have bc := rsB_bd h (k := kc) (i := c) (by rw [List.getElem?_eq_getElem hkc, ec])
      simp only [Function.comp, List.getD_eq_getElem?_getD, List.getElem?_eq_getElem ba.2.2, List.getElem?_eq_getElem bc.2.2, Option.getD_some] at heq
      have hla : a.toNat < (ky S).length := by unfold ky; rw [List.length_map]; exact ba.2.2
      have hlc : c.toNat < (ky S).length := by unfold ky; rw [List.length_map]; exact bc.2.2
      have := List.pairwise_iff_getElem.1 hnd a.toNat c.toNat hla hlc (by omega)
      have e1 : ∀ (i : Nat) (hi : i < (ky S).length) (h2 : i < S.length), (ky S)[i] = nmL S[i].1 := fun i hi h2 => by simp [ky]
      rw [e1 _ _ ba.2.2, e1 _ _ bc.2.2] at this
      exact this heq
theorem tbV_fit {S : List (ByteArray × Int)} {V F : List Int} (hf : fitB S V = true) (h : rsB S F = true) : fitB (tbS S F) (tbV V F) = true := by
  refine fit_all (by rw [tbS_len, tbV_len]) fun k hk => ?_
  have hk' : k < (tbS S F).length := hk
  obtain ⟨i, hi, hp⟩ := tbS_get h (k := k) (p := (tbS S F)[k]) (List.getElem?_eq_getElem hk')
  have hlt := (rsB_bd h hi).2.2
  have hv : V[i.toNat]? = some (V[i.toNat]'(by rw [fit_len hf]; exact hlt)) := List.getElem?_eq_getElem _
  have := fit_get hf (nm := ((tbS S F)[k]).1) (lv := ((tbS S F)[k]).2) hp hv
  exact ⟨((tbS S F)[k]).1, ((tbS S F)[k]).2, _, List.getElem?_eq_getElem hk', tbV_at hi hv, this.1, this.2⟩
/-- Conditions: a set of levels for each variable, none counts as all. -/
def twB (S : List (ByteArray × Int)) (W : List Int) : Bool := decide (W.length = S.length) && (S.zip W).all fun q => inB q.2 0 (2 ^ q.1.2.toNat - 1)
theorem tw_len {S : List (ByteArray × Int)} {W : List Int} (h : twB S W = true) : W.length = S.length := by unfold twB at h; simp only [Bool.and_eq_true, decide_eq_true_eq] at h; exact h.1
theorem tw_no {S : List (ByteArray × Int)} {W : List Int} (h : W.length ≠ S.length) : twB S W = false := by unfold twB; rw [decide_eq_false h]; rfl
theorem tw_bad {S : List (ByteArray × Int)} {W : List Int} {i : Nat} {nm : ByteArray} {lv x : Int} (h1 : S[i]? = some (nm, lv)) (h2 : W[i]? = some x) (h : inB x 0 (2 ^ lv.toNat - 1) = false) : twB S W = false := by
  unfold twB
  have : ((S.zip W).all fun q => inB q.2 0 (2 ^ q.1.2.toNat - 1)) = false := by
    rw [List.all_eq_false]
    exact ⟨((nm, lv), x), List.mem_of_getElem? (zip_at h1 h2), by rw [h]; decide⟩
  rw [this, Bool.and_false]
theorem tw_all {S : List (ByteArray × Int)} {W : List Int} (hl : W.length = S.length) (h : ∀ j, j < S.length → ∃ nm lv x, S[j]? = some (nm, lv) ∧ W[j]? = some x ∧ inB x 0 (2 ^ lv.toNat - 1) = true) : twB S W = true := by
  unfold twB
  rw [decide_eq_true hl, Bool.true_and, List.all_eq_true]
  intro q hq
  obtain ⟨j, hj, e⟩ := List.getElem_of_mem hq
  obtain ⟨nm, lv, x, a, b, c⟩ := h j (by rw [List.length_zip] at hj; omega)
  have e2 := List.getElem?_eq_getElem hj
  rw [zip_at a b, e] at e2
  cases e2
  exact c
theorem tw_get {S : List (ByteArray × Int)} {W : List Int} (hs : schB S = true) (h : twB S W = true) {i : Nat} {x : Int} (h2 : W[i]? = some x) : ∃ nm lv, S[i]? = some (nm, lv) ∧ 2 ≤ lv ∧ lv ≤ 8 ∧ 0 ≤ x ∧ x ≤ flZ lv ∧ x ≤ 255 := by
  have hi : i < S.length := by rw [← tw_len h]; exact (List.getElem?_eq_some_iff.1 h2).1
  have h1 : S[i]? = some (S[i].1, S[i].2) := List.getElem?_eq_getElem hi
  have hl := schB_lv hs h1
  refine ⟨_, _, h1, hl.1, hl.2, ?_⟩
  by_cases hb : inB x 0 (2 ^ (S[i].2).toNat - 1) = true
  · have hb2 := (inB_iff _ _ _).1 hb
    have := flZ_bd hl
    unfold flZ at this ⊢
    exact ⟨hb2.1, hb2.2, by omega⟩
  · rw [tw_bad h1 h2 (by simpa using hb)] at h
    cases h
/-- Are values in the sets of the conditions? -/
def tmB (W V : List Int) : Bool := (W.zip V).all fun q => decide (q.1 = 0) || hsB q.1 q.2
theorem tm_bad {W V : List Int} {i : Nat} {x v : Int} (h1 : W[i]? = some x) (h2 : V[i]? = some v) (h : x ≠ 0) (k : hsB x v = false) : tmB W V = false := by
  unfold tmB
  rw [List.all_eq_false]
  refine ⟨(x, v), List.mem_of_getElem? (List.getElem?_zip_eq_some.2 ⟨h1, h2⟩), ?_⟩
  simp only
  rw [decide_eq_false h, k]
  decide
theorem tm_all {W V : List Int} (h : ∀ j, j < W.length → ∃ x v, W[j]? = some x ∧ V[j]? = some v ∧ (x = 0 ∨ hsB x v = true)) : tmB W V = true := by
  unfold tmB
  rw [List.all_eq_true]
  intro q hq
  obtain ⟨j, hj, e⟩ := List.getElem_of_mem hq
  obtain ⟨x, v, a, b, c⟩ := h j (by rw [List.length_zip] at hj; omega)
  have e2 := List.getElem?_eq_getElem hj
  rw [List.getElem?_zip_eq_some.2 (show W[j]? = some (x, v).1 ∧ V[j]? = some (x, v).2 from ⟨a, b⟩), e] at e2
  cases e2
  simp only
  rcases c with c | c
  · rw [decide_eq_true c]; rfl
  · rw [c, Bool.or_true]

/-- How many cells; is it a table? -/
def tcZ (P : List Int) (S : List (ByteArray × Int)) (l : Int) (F : List Int) : Int := ((lvL P l).length : Int) * cnZ (tbS S F)
def tgB (P : List Int) (S : List (ByteArray × Int)) (l : Int) (F W : List Int) (m : Int) : Bool :=
  geB P && (schB S && (rsB S F && (twB S W && (inB m (-1) ((S.length : Int) - 1) && (decide (0 < (lvL P l).length) && decide (tcZ P S l F ≤ 600))))))
structure TgP (P : List Int) (S : List (ByteArray × Int)) (l : Int) (F W : List Int) (m : Int) : Prop where
  g : geB P = true
  s : schB S = true
  r : rsB S F = true
  w : twB S W = true
  m0 : -1 ≤ m
  m1 : m < S.length
  v : 0 < (lvL P l).length
  c : tcZ P S l F ≤ 600
theorem tg_iff {P : List Int} {S : List (ByteArray × Int)} {l : Int} {F W : List Int} {m : Int} : tgB P S l F W m = true ↔ TgP P S l F W m := by
  unfold tgB
  simp only [Bool.and_eq_true, decide_eq_true_eq, inB_iff]
  exact ⟨fun ⟨a, b, c, d, ⟨e0, e1⟩, f, g⟩ => ⟨a, b, c, d, e0, by omega, f, g⟩, fun ⟨a, b, c, d, e0, e1, f, g⟩ => ⟨a, b, c, d, ⟨e0, by omega⟩, f, g⟩⟩
theorem tg_no {P : List Int} {S : List (ByteArray × Int)} {l : Int} {F W : List Int} {m : Int} (h : ¬ TgP P S l F W m) : tgB P S l F W m = false := by
  rw [← Bool.not_eq_true, tg_iff]; exact h
theorem lvL_len (P : List Int) (l : Int) : (lvL P l).length ≤ P.length := sel_len _ _
theorem tc_bd {P : List Int} {S : List (ByteArray × Int)} {l : Int} {F : List Int} (hg : geB P = true) (hs : schB S = true) (h : rsB S F = true) : 0 ≤ tcZ P S l F ∧ tcZ P S l F ≤ 7864320 ∧ 1 ≤ cnZ (tbS S F) ∧ cnZ (tbS S F) ≤ 262144 := by
  have hc := pt_cn (tbS_ok hs h)
  have hl := lvL_len P l
  have h30 := (ge_len hg).2
  unfold tcZ
  generalize cnZ (tbS S F) = c at hc ⊢
  generalize (lvL P l).length = n at hl ⊢
  have p1 : (n : Int) * c ≤ 30 * 262144 := Int.mul_le_mul (by omega) hc.2 (by omega) (by omega)
  exact ⟨Int.mul_nonneg (by omega) (by omega), by omega, hc.1, hc.2⟩
theorem tc_pos {P : List Int} {S : List (ByteArray × Int)} {l : Int} {F W : List Int} {m : Int} (h : TgP P S l F W m) : 1 ≤ tcZ P S l F := by
  have hc := pt_cn (tbS_ok h.s h.r)
  have hv := h.v
  unfold tcZ
  generalize cnZ (tbS S F) = c at hc ⊢
  generalize (lvL P l).length = n at hv ⊢
  have p1 : 1 * 1 ≤ (n : Int) * c := Int.mul_le_mul (by omega) hc.1 (by omega) (by omega)
  omega

/-- Where a number stands in a list, or -1. -/
def fdI (L : List Int) (n : Int) : Int := match L.findIdx? (· == n) with | some i => i | none => -1
theorem fdI_hit {L : List Int} {n : Int} {i : Nat} (h : L[i]? = some n) (hb : ∀ j, j < i → ¬ L[j]? = some n) : fdI L n = i := by
  unfold fdI
  have : L.findIdx? (· == n) = some i := by
    rw [List.findIdx?_eq_some_iff_getElem]
    obtain ⟨hi, e⟩ := List.getElem?_eq_some_iff.1 h
    refine ⟨hi, by simp [e], fun j hj => ?_⟩
    have := hb j hj
    rw [List.getElem?_eq_getElem (by omega : j < L.length)] at this
    simpa using this
  rw [this]
theorem fdI_miss {L : List Int} {n : Int} (h : ¬ n ∈ L) : fdI L n = -1 := by
  unfold fdI
  have : L.findIdx? (· == n) = none := by
    rw [List.findIdx?_eq_none_iff]
    intro x hx
    simp only [beq_eq_false_iff_ne, ne_eq]
    rintro rfl
    exact h hx
  rw [this]
theorem fdI_mem {L : List Int} {n : Int} (h : n ∈ L) : ∃ i : Nat, fdI L n = i ∧ L[i]? = some n ∧ i < L.length := by
  unfold fdI
  cases hf : L.findIdx? (· == n) with
  | none =>
    rw [List.findIdx?_eq_none_iff] at hf
    have := hf n h
    simp at this
  | some i =>
    rw [List.findIdx?_eq_some_iff_getElem] at hf
    obtain ⟨hi, e, -⟩ := hf
    simp at e
    exact ⟨i, rfl, by rw [List.getElem?_eq_getElem hi, e], hi⟩
theorem fdI_bd (L : List Int) (n : Int) : -1 ≤ fdI L n ∧ fdI L n < L.length := by
  by_cases h : n ∈ L
  · obtain ⟨i, e, -, hi⟩ := fdI_mem h
    omega
  · rw [fdI_miss h]
    omega
theorem fdI_neg {L : List Int} {n : Int} : 0 ≤ fdI L n ↔ n ∈ L := by
  by_cases h : n ∈ L
  · obtain ⟨i, e, -, -⟩ := fdI_mem h
    exact ⟨fun _ => h, fun _ => by omega⟩
  · rw [fdI_miss h]
    exact ⟨fun k => by omega, fun k => absurd k h⟩

/-- The cell of an area and values. -/
def ceZ (P : List Int) (S : List (ByteArray × Int)) (l : Int) (F : List Int) (a : Int) (V : List Int) : Int := fdI (lvL P l) a * cnZ (tbS S F) + ixZ (tbS S F) V
theorem ce_bd {P : List Int} {S : List (ByteArray × Int)} {l : Int} {F W : List Int} {m a : Int} {V : List Int} (h : TgP P S l F W m) (ha : a ∈ lvL P l) (hf : fitB (tbS S F) V = true) :
    0 ≤ fdI (lvL P l) a * cnZ (tbS S F) ∧ fdI (lvL P l) a * cnZ (tbS S F) ≤ 600 ∧ 0 ≤ ceZ P S l F a V ∧ ceZ P S l F a V < tcZ P S l F := by
  obtain ⟨i, e, -, hi⟩ := fdI_mem ha
  have hp := tbS_ok h.s h.r
  have hc := pt_cn hp
  have hx := pt_ix hp hf
  have h6 := h.c
  unfold ceZ tcZ at *
  rw [e]
  generalize cnZ (tbS S F) = c at *
  generalize ixZ (tbS S F) V = x at *
  generalize (lvL P l).length = n at *
  have p1 : ((i : Int) + 1) * c ≤ (n : Int) * c := Int.mul_le_mul_of_nonneg_right (by omega) (by omega)
  have p2 : 0 ≤ (i : Int) * c := Int.mul_nonneg (by omega) (by omega)
  rw [Int.add_mul] at p1
  omega

/-- The area of a level above an area is one of that level. -/
theorem an_lv {P : List Int} (hg : geB P = true) {i : Nat} (hi : i < P.length) {l : Int} (h : 0 ≤ anZ P i l) : anZ P i l ∈ lvL P l := by
  have hb := (an_bd hg hi l).2.2.1 h
  obtain ⟨n, rfl⟩ := Int.eq_ofNat_of_zero_le hb.1
  have hn : n ≤ dpN P i := by omega
  revert hn
  refine ge_ind hg (Q := fun i => n ≤ dpN P i → anZ P i n ∈ lvL P n) (fun h0 => ?_) (fun i p hi hp hl ih h0 => ?_) i hi
  · rw [dp_zero] at h0
    obtain rfl : n = 0 := by omega
    rw [an_at (l := 0) (v := 0) (by rw [pt_zero]; rfl)]
    exact sel_mem.2 ⟨0, rfl, by have := ge_len hg; omega, by rw [dp_zero]; rfl⟩
  · have hd := dp_step hp hl
    have h0' : n ≤ dpN P i := h0
    rcases Nat.lt_or_ge (dpN P p) n with h1 | h1
    · obtain rfl : n = dpN P i := by omega
      rw [an_at (pt_last P)]
      exact sel_mem.2 ⟨i, rfl, hi, decide_eq_true rfl⟩
    · have e : anZ P i n = anZ P p n := by
        have hlt : n < (ptL P p).length := by rw [pt_len]; omega
        have hat : (ptL P p)[n]? = some ((ptL P p)[n]) := List.getElem?_eq_getElem hlt
        rw [an_at hat, an_at (v := (ptL P p)[n])]
        rw [pt_step hp hl, List.getElem?_append_left hlt, hat]
      show anZ P i n ∈ lvL P n
      rw [e]
      exact ih h1

/-- The cell and the amount of a record, or -1 and 0. -/
def clI (P : List Int) (S : List (ByteArray × Int)) (l : Int) (F W : List Int) (a : Int) (V : List Int) : Int := if 0 ≤ anZ P a.toNat l ∧ tmB W V = true then ceZ P S l F (anZ P a.toNat l) (tbV V F) else -1
def clN (P : List Int) (l : Int) (W : List Int) (m : Int) (a : Int) (V : List Int) : Int := if 0 ≤ anZ P a.toNat l ∧ tmB W V = true then (if m < 0 then 1 else V.getD m.toNat 0) else 0
theorem cl_no {P : List Int} {S : List (ByteArray × Int)} {l : Int} {F W : List Int} {m a : Int} {V : List Int} (h : ¬ (0 ≤ anZ P a.toNat l ∧ tmB W V = true)) : clI P S l F W a V = -1 ∧ clN P l W m a V = 0 := ⟨if_neg h, if_neg h⟩
theorem cl_yes {P : List Int} {S : List (ByteArray × Int)} {l : Int} {F W : List Int} {a : Int} {V : List Int} (h : 0 ≤ anZ P a.toNat l) (k : tmB W V = true) : clI P S l F W a V = ceZ P S l F (anZ P a.toNat l) (tbV V F) := if_pos ⟨h, k⟩
theorem cl_one {P : List Int} {l : Int} {W : List Int} {m a : Int} {V : List Int} (h : 0 ≤ anZ P a.toNat l) (k : tmB W V = true) (hm : m < 0) : clN P l W m a V = 1 := by unfold clN; rw [if_pos ⟨h, k⟩, if_pos hm]
theorem cl_val {P : List Int} {l : Int} {W : List Int} {m a v : Int} {V : List Int} (h : 0 ≤ anZ P a.toNat l) (k : tmB W V = true) (hm : 0 ≤ m) (hv : V[m.toNat]? = some v) : clN P l W m a V = v := by
  unfold clN
  rw [if_pos ⟨h, k⟩, if_neg (by omega), List.getD_eq_getElem?_getD, hv]
  rfl
theorem cl_bd {P : List Int} {S : List (ByteArray × Int)} {l : Int} {F W : List Int} {m a : Int} {V : List Int} (h : TgP P S l F W m) (ha : a.toNat < P.length) (hf : fitB S V = true) :
    -1 ≤ clI P S l F W a V ∧ clI P S l F W a V < tcZ P S l F ∧ 0 ≤ clN P l W m a V ∧ clN P l W m a V ≤ 8 := by
  by_cases hk : 0 ≤ anZ P a.toNat l ∧ tmB W V = true
  · rw [cl_yes hk.1 hk.2]
    have := ce_bd h (an_lv h.g ha hk.1) (tbV_fit hf h.r)
    refine ⟨by omega, this.2.2.2, ?_⟩
    by_cases hm : m < 0
    · rw [cl_one hk.1 hk.2 hm]; omega
    · have hi : m.toNat < S.length := by have := h.m1; omega
      have hs : S[m.toNat]? = some (S[m.toNat].1, S[m.toNat].2) := List.getElem?_eq_getElem hi
      have hv : V[m.toNat]? = some (V[m.toNat]'(by rw [fit_len hf]; exact hi)) := List.getElem?_eq_getElem _
      rw [cl_val hk.1 hk.2 (by omega) hv]
      have h1 := fit_get hf hs hv
      have h2 := schB_lv h.s hs
      omega
  · obtain ⟨e1, e2⟩ := cl_no (S := S) (F := F) (m := m) hk
    rw [e1, e2]
    have := tc_pos h
    omega

/-- A survey; what the functions answer. -/
def tyB (P : List Int) (M : List RV) : Bool := M.all fun r => (lfL P).contains r.1
end Go.Proofs.Ytgkaalonmkcclaa

namespace Go.Proofs.Ytgkaalonmkcclaa
open Go.RowKit
set_option maxRecDepth 100000

/-- Block g holds a record. -/
def RB (w : World) (g : Nat) (a h : Int) (x : Option Addr) (n c : Nat) : Prop :=
  w.cell? ⟨g, 0, none⟩ = some (.int .i64 a) ∧ w.cell? ⟨g, 1, none⟩ = some (.int .i64 h) ∧ w.cell? ⟨g, 2, none⟩ = some (.slice x n c) ∧ g < w.heap.size
theorem RB.new (w : World) (a h : Int) (x : Option Addr) (n c : Nat) (t : TypeId) : RB (w.alloc (.cells #[.int .i64 a, .int .i64 h, .slice x n c] t)) w.heap.size a h x n c := by
  have k := Wb.new w t #[.int .i64 a, .int .i64 h, .slice x n c]
  exact ⟨(k.read 0).trans rfl, (k.read 1).trans rfl, (k.read 2).trans rfl, k.inside⟩
theorem RB.below {w w' : World} {g : Nat} {a h : Int} {x : Option Addr} {n c : Nat} (k : RB w g a h x n c) (hb : Below w.heap.size w w') : RB w' g a h x n c :=
  ⟨(hb.cell k.2.2.2).trans k.1, (hb.cell k.2.2.2).trans k.2.1, (hb.cell k.2.2.2).trans k.2.2.1, Nat.lt_of_lt_of_le k.2.2.2 hb.size⟩
theorem RB.off {w w' : World} {lo hi g : Nat} {a h : Int} {x : Option Addr} {n c : Nat} (k : RB w g a h x n c) (hg : Off lo hi w w') (hne : g < lo ∨ hi ≤ g) : RB w' g a h x n c := by
  have e := hg.block g k.2.2.2 hne
  exact ⟨(World.cell?_of_block (a := ⟨g, 0, none⟩) e).trans k.1, (World.cell?_of_block (a := ⟨g, 1, none⟩) e).trans k.2.1, (World.cell?_of_block (a := ⟨g, 2, none⟩) e).trans k.2.2.1, Nat.lt_of_lt_of_le k.2.2.2 hg.size⟩

theorem rok_no {S : List (ByteArray × Int)} {a h : Int} {L : List Int} (k : ¬ (0 ≤ a ∧ a ≤ 29) ∨ ¬ (0 ≤ h ∧ h ≤ 999)) : rokB S (a, h, L) = false := by
  unfold rokB
  rcases k with k | k
  · rw [(inB_no a 0 29).2 k]; rfl
  · rw [(inB_no h 0 999).2 k, Bool.and_false]; rfl
theorem rok_yes {S : List (ByteArray × Int)} {a h : Int} {L : List Int} (k : 0 ≤ a ∧ a ≤ 29) (k2 : 0 ≤ h ∧ h ≤ 999) : rokB S (a, h, L) = fitB S L := by
  unfold rokB
  rw [(inB_iff a 0 29).2 k, (inB_iff h 0 999).2 k2]; rfl

set_option maxHeartbeats 2000000 in
theorem isRecordFor_any (x y : Option Addr) (c1 c2 : Nat) (S : List (ByteArray × Int)) (a h : Int) (L : List Int) (w : World) (hs : schB S = true) (hm : S.length ≤ 1048576) (hS : Rd w x (vC S)) (hL : IIn w y L) :
    Calls Try.prog 140 #[.slice x S.length c1, .agg #[.int .i64 a, .int .i64 h, .slice y L.length c2]] w fun e w' => e = .returned (.bool (rokB S (a, h, L))) ∧ Below w.heap.size w w' := by
  have hSh := Lib.hid hS
  have hLh := Lib.hid hL
  clear hS hL
  by_cases h1 : a < 0
  · skip
    have hv := Lib.hid (rok_no (S := S) (a := a) (h := h) (L := L) (Or.inl (by omega)))
    go_enter Try.func140, Try.ntmps140
    go_wp2
    go_ret
    exact ⟨ret_bool hv.out.symm, (by repeat (first | exact Below.refl _ _ | assumption | refine Below.drew ?_ | refine below_drewN ?_ _ | refine Below.alloc' ?_ _ | (refine Below.setCell ?_ (by first | omega | (simp; done) | (simp; omega) | exact Below.size (by assumption) | exact Nat.le_trans (Below.size (by assumption)) (by simp)) _) | (refine Below.via' ?_ (by assumption)) | (refine Below.alloc ?_ (by first | omega | (simp; done) | (simp; omega) | exact Below.size (by assumption) | exact Nat.le_trans (Below.size (by assumption)) (by simp)) _) | (refine Below.via ?_ (by assumption) (by first | omega | (simp; done) | (simp; omega) | exact Below.size (by assumption) | exact Nat.le_trans (Below.size (by assumption)) (by simp)))))⟩
  by_cases h2 : 29 < a
  · skip
    have hv := Lib.hid (rok_no (S := S) (a := a) (h := h) (L := L) (Or.inl (by omega)))
    go_enter Try.func140, Try.ntmps140
    go_wp2
    go_ret
    exact ⟨ret_bool hv.out.symm, (by repeat (first | exact Below.refl _ _ | assumption | refine Below.drew ?_ | refine below_drewN ?_ _ | refine Below.alloc' ?_ _ | (refine Below.setCell ?_ (by first | omega | (simp; done) | (simp; omega) | exact Below.size (by assumption) | exact Nat.le_trans (Below.size (by assumption)) (by simp)) _) | (refine Below.via' ?_ (by assumption)) | (refine Below.alloc ?_ (by first | omega | (simp; done) | (simp; omega) | exact Below.size (by assumption) | exact Nat.le_trans (Below.size (by assumption)) (by simp)) _) | (refine Below.via ?_ (by assumption) (by first | omega | (simp; done) | (simp; omega) | exact Below.size (by assumption) | exact Nat.le_trans (Below.size (by assumption)) (by simp)))))⟩
  by_cases h3 : h < 0
  · skip
    have hv := Lib.hid (rok_no (S := S) (a := a) (h := h) (L := L) (Or.inr (by omega)))
    go_enter Try.func140, Try.ntmps140
    go_wp2
    go_ret
    exact ⟨ret_bool hv.out.symm, (by repeat (first | exact Below.refl _ _ | assumption | refine Below.drew ?_ | refine below_drewN ?_ _ | refine Below.alloc' ?_ _ | (refine Below.setCell ?_ (by first | omega | (simp; done) | (simp; omega) | exact Below.size (by assumption) | exact Nat.le_trans (Below.size (by assumption)) (by simp)) _) | (refine Below.via' ?_ (by assumption)) | (refine Below.alloc ?_ (by first | omega | (simp; done) | (simp; omega) | exact Below.size (by assumption) | exact Nat.le_trans (Below.size (by assumption)) (by simp)) _) | (refine Below.via ?_ (by assumption) (by first | omega | (simp; done) | (simp; omega) | exact Below.size (by assumption) | exact Nat.le_trans (Below.size (by assumption)) (by simp)))))⟩
  by_cases h4 : 999 < h
  · skip
    have hv := Lib.hid (rok_no (S := S) (a := a) (h := h) (L := L) (Or.inr (by omega)))
    go_enter Try.func140, Try.ntmps140
    go_wp2
    go_ret
    exact ⟨ret_bool hv.out.symm, (by repeat (first | exact Below.refl _ _ | assumption | refine Below.drew ?_ | refine below_drewN ?_ _ | refine Below.alloc' ?_ _ | (refine Below.setCell ?_ (by first | omega | (simp; done) | (simp; omega) | exact Below.size (by assumption) | exact Nat.le_trans (Below.size (by assumption)) (by simp)) _) | (refine Below.via' ?_ (by assumption)) | (refine Below.alloc ?_ (by first | omega | (simp; done) | (simp; omega) | exact Below.size (by assumption) | exact Nat.le_trans (Below.size (by assumption)) (by simp)) _) | (refine Below.via ?_ (by assumption) (by first | omega | (simp; done) | (simp; omega) | exact Below.size (by assumption) | exact Nat.le_trans (Below.size (by assumption)) (by simp)))))⟩
  have hv := Lib.hid (rok_yes (S := S) (L := L) (a := a) (h := h) (by omega) (by omega))
  go_enter Try.func140, Try.ntmps140
  go_wp2_with fail
  refine (areValues_any _ _ _ _ S L _ hs hm (hSh.out.below (by exact (by repeat (first | exact Below.refl _ _ | assumption | refine Below.drew ?_ | refine below_drewN ?_ _ | refine Below.alloc' ?_ _ | (refine Below.setCell ?_ (by first | omega | (simp; done) | (simp; omega) | exact Below.size (by assumption) | exact Nat.le_trans (Below.size (by assumption)) (by simp)) _) | (refine Below.via' ?_ (by assumption)) | (refine Below.alloc ?_ (by first | omega | (simp; done) | (simp; omega) | exact Below.size (by assumption) | exact Nat.le_trans (Below.size (by assumption)) (by simp)) _) | (refine Below.via ?_ (by assumption) (by first | omega | (simp; done) | (simp; omega) | exact Below.size (by assumption) | exact Nat.le_trans (Below.size (by assumption)) (by simp))))))) (hLh.out.below (by exact (by repeat (first | exact Below.refl _ _ | assumption | refine Below.drew ?_ | refine below_drewN ?_ _ | refine Below.alloc' ?_ _ | (refine Below.setCell ?_ (by first | omega | (simp; done) | (simp; omega) | exact Below.size (by assumption) | exact Nat.le_trans (Below.size (by assumption)) (by simp)) _) | (refine Below.via' ?_ (by assumption)) | (refine Below.alloc ?_ (by first | omega | (simp; done) | (simp; omega) | exact Below.size (by assumption) | exact Nat.le_trans (Below.size (by assumption)) (by simp)) _) | (refine Below.via ?_ (by assumption) (by first | omega | (simp; done) | (simp; omega) | exact Below.size (by assumption) | exact Nat.le_trans (Below.size (by assumption)) (by simp)))))))).mono ?_
  rintro e w1 ⟨rfl, hb1⟩
  go_wp2
  go_ret
  exact ⟨ret_bool hv.out.symm, (by repeat (first | exact Below.refl _ _ | assumption | refine Below.drew ?_ | refine below_drewN ?_ _ | refine Below.alloc' ?_ _ | (refine Below.setCell ?_ (by first | omega | (simp; done) | (simp; omega) | exact Below.size (by assumption) | exact Nat.le_trans (Below.size (by assumption)) (by simp)) _) | (refine Below.via' ?_ (by assumption)) | (refine Below.alloc ?_ (by first | omega | (simp; done) | (simp; omega) | exact Below.size (by assumption) | exact Nat.le_trans (Below.size (by assumption)) (by simp)) _) | (refine Below.via ?_ (by assumption) (by first | omega | (simp; done) | (simp; omega) | exact Below.size (by assumption) | exact Nat.le_trans (Below.size (by assumption)) (by simp)))))⟩

set_option maxHeartbeats 2000000 in
theorem rGood_any (x y : Option Addr) (c1 c2 : Nat) (S : List (ByteArray × Int)) (a h : Int) (L : List Int) (w : World) (hs : schB S = true) (hm : S.length ≤ 1048576) (hS : Rd w x (vC S)) (hL : IIn w y L) :
    Calls Try.prog 90 #[.slice x S.length c1, .agg #[.int .i64 a, .int .i64 h, .slice y L.length c2]] w fun e w' => e = .returned (.bool (rokB S (a, h, L))) ∧ Below w.heap.size w w' := by
  have hSh := Lib.hid hS
  have hLh := Lib.hid hL
  clear hS hL
  cases h1 : inB a 0 29
  · have hv := Lib.hid (rok_no (S := S) (L := L) (h := h) (Or.inl ((inB_no _ _ _).1 h1)))
    go_enter Try.func90, Try.ntmps90
    go_wp2_with (go_at_call 79; refine (l1In_any _ _ _ _).mono ?_; rintro e w1 ⟨rfl, rfl⟩)
    go_ret
    exact ⟨ret_bool hv.out.symm, (by repeat (first | exact Below.refl _ _ | assumption | refine Below.drew ?_ | refine below_drewN ?_ _ | refine Below.alloc' ?_ _ | (refine Below.setCell ?_ (by first | omega | (simp; done) | (simp; omega) | exact Below.size (by assumption) | exact Nat.le_trans (Below.size (by assumption)) (by simp)) _) | (refine Below.via' ?_ (by assumption)) | (refine Below.alloc ?_ (by first | omega | (simp; done) | (simp; omega) | exact Below.size (by assumption) | exact Nat.le_trans (Below.size (by assumption)) (by simp)) _) | (refine Below.via ?_ (by assumption) (by first | omega | (simp; done) | (simp; omega) | exact Below.size (by assumption) | exact Nat.le_trans (Below.size (by assumption)) (by simp)))))⟩
  cases h2 : inB h 0 999
  · have hv := Lib.hid (rok_no (S := S) (L := L) (a := a) (Or.inr ((inB_no _ _ _).1 h2)))
    go_enter Try.func90, Try.ntmps90
    go_wp2_with (go_at_call 79; refine (l1In_any _ _ _ _).mono ?_; rintro e w1 ⟨rfl, rfl⟩)
    go_ret
    exact ⟨ret_bool hv.out.symm, (by repeat (first | exact Below.refl _ _ | assumption | refine Below.drew ?_ | refine below_drewN ?_ _ | refine Below.alloc' ?_ _ | (refine Below.setCell ?_ (by first | omega | (simp; done) | (simp; omega) | exact Below.size (by assumption) | exact Nat.le_trans (Below.size (by assumption)) (by simp)) _) | (refine Below.via' ?_ (by assumption)) | (refine Below.alloc ?_ (by first | omega | (simp; done) | (simp; omega) | exact Below.size (by assumption) | exact Nat.le_trans (Below.size (by assumption)) (by simp)) _) | (refine Below.via ?_ (by assumption) (by first | omega | (simp; done) | (simp; omega) | exact Below.size (by assumption) | exact Nat.le_trans (Below.size (by assumption)) (by simp)))))⟩
  have hv := Lib.hid (rok_yes (S := S) (L := L) (a := a) (h := h) ((inB_iff _ _ _).1 h1) ((inB_iff _ _ _).1 h2))
  go_enter Try.func90, Try.ntmps90
  go_wp2_with (first | (go_at_call 79; refine (l1In_any _ _ _ _).mono ?_; rintro e w1 ⟨rfl, rfl⟩) | (go_at_call 70; refine (sFits_any _ _ _ _ S L _ hs hm (hSh.out.below (by exact (by repeat (first | exact Below.refl _ _ | assumption | refine Below.drew ?_ | refine below_drewN ?_ _ | refine Below.alloc' ?_ _ | (refine Below.setCell ?_ (by first | omega | (simp; done) | (simp; omega) | exact Below.size (by assumption) | exact Nat.le_trans (Below.size (by assumption)) (by simp)) _) | (refine Below.via' ?_ (by assumption)) | (refine Below.alloc ?_ (by first | omega | (simp; done) | (simp; omega) | exact Below.size (by assumption) | exact Nat.le_trans (Below.size (by assumption)) (by simp)) _) | (refine Below.via ?_ (by assumption) (by first | omega | (simp; done) | (simp; omega) | exact Below.size (by assumption) | exact Nat.le_trans (Below.size (by assumption)) (by simp))))))) (hLh.out.below (by exact (by repeat (first | exact Below.refl _ _ | assumption | refine Below.drew ?_ | refine below_drewN ?_ _ | refine Below.alloc' ?_ _ | (refine Below.setCell ?_ (by first | omega | (simp; done) | (simp; omega) | exact Below.size (by assumption) | exact Nat.le_trans (Below.size (by assumption)) (by simp)) _) | (refine Below.via' ?_ (by assumption)) | (refine Below.alloc ?_ (by first | omega | (simp; done) | (simp; omega) | exact Below.size (by assumption) | exact Nat.le_trans (Below.size (by assumption)) (by simp)) _) | (refine Below.via ?_ (by assumption) (by first | omega | (simp; done) | (simp; omega) | exact Below.size (by assumption) | exact Nat.le_trans (Below.size (by assumption)) (by simp)))))))).mono ?_; rintro e w2 ⟨rfl, hb2⟩; obtain ⟨hcl2, hfr2⟩ := bcell hb2; have hz2 := hb2.size; (try simp at hz2); (try (have hly2 := Nat.lt_of_succ_le hz2)); (try (have hlx2 := Nat.lt_of_succ_lt hly2)); (try (have hlw2 := Nat.lt_of_succ_lt hlx2)); (try (have hle2 := Nat.le_of_lt hly2)); (try (have hya2 : w.heap.size < w2.heap.size := by omega)); (try (have hyb2 : w.heap.size + 1 < w2.heap.size := by omega)); (try (have hyc2 : w.heap.size + 1 + 1 < w2.heap.size := by omega)); (try (have hyd2 : wa.heap.size < w2.heap.size := by omega))))
  go_ret
  exact ⟨ret_bool hv.out.symm, (by repeat (first | exact Below.refl _ _ | assumption | refine Below.drew ?_ | refine below_drewN ?_ _ | refine Below.alloc' ?_ _ | (refine Below.setCell ?_ (by first | omega | (simp; done) | (simp; omega) | exact Below.size (by assumption) | exact Nat.le_trans (Below.size (by assumption)) (by simp)) _) | (refine Below.via' ?_ (by assumption)) | (refine Below.alloc ?_ (by first | omega | (simp; done) | (simp; omega) | exact Below.size (by assumption) | exact Nat.le_trans (Below.size (by assumption)) (by simp)) _) | (refine Below.via ?_ (by assumption) (by first | omega | (simp; done) | (simp; omega) | exact Below.size (by assumption) | exact Nat.le_trans (Below.size (by assumption)) (by simp)))))⟩

set_option maxHeartbeats 2000000 in
theorem areDataFor_any (x y : Option Addr) (c1 c2 : Nat) (S : List (ByteArray × Int)) (Q : List PR) (w : World) (hs : schB S = true) (hm : S.length ≤ 1048576) (hS : Rd w x (vC S)) (hQ : DIn w y Q) :
    Calls Try.prog 116 #[.slice x S.length c1, .slice y Q.length c2] w fun e w' => e = .returned (.bool (dokB S (pM Q))) ∧ Below w.heap.size w w' := by
  have hSh := Lib.hid hS
  have hQl := hQ.1
  have hQh := Lib.hid hQ
  clear hS hQ
  by_cases hlen : 40 < Q.length
  · have hv := Lib.hid (dokB_long (S := S) (Q := pM Q) (by rw [pM_len]; exact hlen))
    go_enter Try.func116, Try.ntmps116
    go_wp2
    go_ret
    exact ⟨ret_bool hv.out.symm, (by repeat (first | exact Below.refl _ _ | assumption | refine Below.drew ?_ | refine below_drewN ?_ _ | refine Below.alloc' ?_ _ | (refine Below.setCell ?_ (by first | omega | (simp; done) | (simp; omega) | exact Below.size (by assumption) | exact Nat.le_trans (Below.size (by assumption)) (by simp)) _) | (refine Below.via' ?_ (by assumption)) | (refine Below.alloc ?_ (by first | omega | (simp; done) | (simp; omega) | exact Below.size (by assumption) | exact Nat.le_trans (Below.size (by assumption)) (by simp)) _) | (refine Below.via ?_ (by assumption) (by first | omega | (simp; done) | (simp; omega) | exact Below.size (by assumption) | exact Nat.le_trans (Below.size (by assumption)) (by simp)))))⟩
  go_enter Try.func116, Try.ntmps116
  go_wp2
  go_loopw [12] (fun c wr => ∃ i : Nat, i ≤ Q.length ∧ c = .int .i64 i ∧ Hid (∀ j, j < i → ∃ q, (pM Q)[j]? = some q ∧ rokB S q = true) ∧ Below w.heap.size w wr) (fun c _ => Q.length - (intOf c).toNat)
  case atStart => exact ⟨0, by omega, rfl, (fun j hj => absurd hj (by omega)), (by repeat (first | exact Below.refl _ _ | assumption | refine Below.drew ?_ | refine below_drewN ?_ _ | refine Below.alloc' ?_ _ | (refine Below.setCell ?_ (by first | omega | (simp; done) | (simp; omega) | exact Below.size (by assumption) | exact Nat.le_trans (Below.size (by assumption)) (by simp)) _) | (refine Below.via' ?_ (by assumption)) | (refine Below.alloc ?_ (by first | omega | (simp; done) | (simp; omega) | exact Below.size (by assumption) | exact Nat.le_trans (Below.size (by assumption)) (by simp)) _) | (refine Below.via ?_ (by assumption) (by first | omega | (simp; done) | (simp; omega) | exact Below.size (by assumption) | exact Nat.le_trans (Below.size (by assumption)) (by simp)))))⟩
  case round =>
    obtain ⟨i, hi, rfl, hall, hb⟩ := hrel
    by_cases hlt : i < Q.length
    · obtain ⟨bl, off, q, rfl, hbl, hQi, hc0, hc1, hc2⟩ := (hQh.out.2.2.below hb).rec hlt
      have hq := Lib.hid ((hQh.out.2.1 q (List.mem_of_getElem? hQi)).2.2.below hb)
      have hlt' : (i : Int) < (Q.length : Int) := by omega
      have hi0 : (0 : Int) ≤ (i : Int) := by omega
      cases hr : rokB S (q.a, q.h, q.L)
      · have hv := Lib.hid (dokB_bad (S := S) (pM_at hQi) hr)
        clear hQi
        go_wp2_with fail
        refine (isRecordFor_any _ _ _ _ S q.a q.h q.L _ hs hm (hSh.out.below (by exact (by repeat (first | exact Below.refl _ _ | assumption | refine Below.drew ?_ | refine below_drewN ?_ _ | refine Below.alloc' ?_ _ | (refine Below.setCell ?_ (by first | omega | (simp; done) | (simp; omega) | exact Below.size (by assumption) | exact Nat.le_trans (Below.size (by assumption)) (by simp)) _) | (refine Below.via' ?_ (by assumption)) | (refine Below.alloc ?_ (by first | omega | (simp; done) | (simp; omega) | exact Below.size (by assumption) | exact Nat.le_trans (Below.size (by assumption)) (by simp)) _) | (refine Below.via ?_ (by assumption) (by first | omega | (simp; done) | (simp; omega) | exact Below.size (by assumption) | exact Nat.le_trans (Below.size (by assumption)) (by simp))))))) (hq.out.below (by exact (by repeat (first | exact Below.refl _ _ | assumption | refine Below.drew ?_ | refine below_drewN ?_ _ | refine Below.alloc' ?_ _ | (refine Below.setCell ?_ (by first | omega | (simp; done) | (simp; omega) | exact Below.size (by assumption) | exact Nat.le_trans (Below.size (by assumption)) (by simp)) _) | (refine Below.via' ?_ (by assumption)) | (refine Below.alloc ?_ (by first | omega | (simp; done) | (simp; omega) | exact Below.size (by assumption) | exact Nat.le_trans (Below.size (by assumption)) (by simp)) _) | (refine Below.via ?_ (by assumption) (by first | omega | (simp; done) | (simp; omega) | exact Below.size (by assumption) | exact Nat.le_trans (Below.size (by assumption)) (by simp)))))))).mono ?_
        rintro e w2 ⟨rfl, hb2⟩
        rw [hr]
        go_wp2
        go_ret
        exact ⟨ret_bool hv.out.symm, (by repeat (first | exact Below.refl _ _ | assumption | refine Below.drew ?_ | refine below_drewN ?_ _ | refine Below.alloc' ?_ _ | (refine Below.setCell ?_ (by first | omega | (simp; done) | (simp; omega) | exact Below.size (by assumption) | exact Nat.le_trans (Below.size (by assumption)) (by simp)) _) | (refine Below.via' ?_ (by assumption)) | (refine Below.alloc ?_ (by first | omega | (simp; done) | (simp; omega) | exact Below.size (by assumption) | exact Nat.le_trans (Below.size (by assumption)) (by simp)) _) | (refine Below.via ?_ (by assumption) (by first | omega | (simp; done) | (simp; omega) | exact Below.size (by assumption) | exact Nat.le_trans (Below.size (by assumption)) (by simp)))))⟩
      · replace hQi := Lib.hid hQi
        go_wp2_with fail
        refine (isRecordFor_any _ _ _ _ S q.a q.h q.L _ hs hm (hSh.out.below (by exact (by repeat (first | exact Below.refl _ _ | assumption | refine Below.drew ?_ | refine below_drewN ?_ _ | refine Below.alloc' ?_ _ | (refine Below.setCell ?_ (by first | omega | (simp; done) | (simp; omega) | exact Below.size (by assumption) | exact Nat.le_trans (Below.size (by assumption)) (by simp)) _) | (refine Below.via' ?_ (by assumption)) | (refine Below.alloc ?_ (by first | omega | (simp; done) | (simp; omega) | exact Below.size (by assumption) | exact Nat.le_trans (Below.size (by assumption)) (by simp)) _) | (refine Below.via ?_ (by assumption) (by first | omega | (simp; done) | (simp; omega) | exact Below.size (by assumption) | exact Nat.le_trans (Below.size (by assumption)) (by simp))))))) (hq.out.below (by exact (by repeat (first | exact Below.refl _ _ | assumption | refine Below.drew ?_ | refine below_drewN ?_ _ | refine Below.alloc' ?_ _ | (refine Below.setCell ?_ (by first | omega | (simp; done) | (simp; omega) | exact Below.size (by assumption) | exact Nat.le_trans (Below.size (by assumption)) (by simp)) _) | (refine Below.via' ?_ (by assumption)) | (refine Below.alloc ?_ (by first | omega | (simp; done) | (simp; omega) | exact Below.size (by assumption) | exact Nat.le_trans (Below.size (by assumption)) (by simp)) _) | (refine Below.via ?_ (by assumption) (by first | omega | (simp; done) | (simp; omega) | exact Below.size (by assumption) | exact Nat.le_trans (Below.size (by assumption)) (by simp)))))))).mono ?_
        rintro e w2 ⟨rfl, hb2⟩
        rw [hr]
        go_wp2
        go_roundw
        case rel =>
          refine ⟨i + 1, by omega, by go_num, fun j hj => ?_, (by repeat (first | exact Below.refl _ _ | assumption | refine Below.drew ?_ | refine below_drewN ?_ _ | refine Below.alloc' ?_ _ | (refine Below.setCell ?_ (by first | omega | (simp; done) | (simp; omega) | exact Below.size (by assumption) | exact Nat.le_trans (Below.size (by assumption)) (by simp)) _) | (refine Below.via' ?_ (by assumption)) | (refine Below.alloc ?_ (by first | omega | (simp; done) | (simp; omega) | exact Below.size (by assumption) | exact Nat.le_trans (Below.size (by assumption)) (by simp)) _) | (refine Below.via ?_ (by assumption) (by first | omega | (simp; done) | (simp; omega) | exact Below.size (by assumption) | exact Nat.le_trans (Below.size (by assumption)) (by simp)))))⟩
          rcases Nat.lt_or_ge j i with hj2 | hj2
          · exact hall.out j hj2
          · obtain rfl : j = i := by omega
            exact ⟨_, pM_at hQi.out, hr⟩
        case measure => simp [intOf]; omega
    · have hij : i = Q.length := by omega
      subst hij
      have hv := Lib.hid (dokB_all (S := S) (Q := pM Q) (by rw [pM_len]; exact hall.out))
      have hd : decide ((pM Q).length ≤ 40) = true := by rw [pM_len]; exact decide_eq_true (by omega)
      rw [hd] at hv
      clear hall hd
      go_wp2
      go_ret
      exact ⟨ret_bool hv.out.symm, hb⟩

set_option maxHeartbeats 2000000 in
theorem dGood_any (x y : Option Addr) (c1 c2 : Nat) (S : List (ByteArray × Int)) (Q : List PR) (w : World) (hs : schB S = true) (hm : S.length ≤ 1048576) (hS : Rd w x (vC S)) (hQ : DIn w y Q) :
    Calls Try.prog 139 #[.slice x S.length c1, .slice y Q.length c2] w fun e w' => e = .returned (.bool (dokB S (pM Q))) ∧ Below w.heap.size w w' := by
  have hSh := Lib.hid hS
  have hQl := hQ.1
  have hQh := Lib.hid hQ
  clear hS hQ
  go_enter Try.func139, Try.ntmps139
  go_wp2
  go_loopw [9] (fun c wr => ∃ i : Nat, i ≤ Q.length ∧ c = .int .i64 i ∧ Hid (∀ j, j < i → ∃ q, (pM Q)[j]? = some q ∧ rokB S q = true) ∧ Below w.heap.size w wr) (fun c _ => Q.length - (intOf c).toNat)
  case atStart => exact ⟨0, by omega, rfl, (fun j hj => absurd hj (by omega)), (by repeat (first | exact Below.refl _ _ | assumption | refine Below.drew ?_ | refine below_drewN ?_ _ | refine Below.alloc' ?_ _ | (refine Below.setCell ?_ (by first | omega | (simp; done) | (simp; omega) | exact Below.size (by assumption) | exact Nat.le_trans (Below.size (by assumption)) (by simp)) _) | (refine Below.via' ?_ (by assumption)) | (refine Below.alloc ?_ (by first | omega | (simp; done) | (simp; omega) | exact Below.size (by assumption) | exact Nat.le_trans (Below.size (by assumption)) (by simp)) _) | (refine Below.via ?_ (by assumption) (by first | omega | (simp; done) | (simp; omega) | exact Below.size (by assumption) | exact Nat.le_trans (Below.size (by assumption)) (by simp)))))⟩
  case round =>
    obtain ⟨i, hi, rfl, hall, hb⟩ := hrel
    by_cases hlt : i < Q.length
    · obtain ⟨bl, off, q, rfl, hbl, hQi, hc0, hc1, hc2⟩ := (hQh.out.2.2.below hb).rec hlt
      have hq := Lib.hid ((hQh.out.2.1 q (List.mem_of_getElem? hQi)).2.2.below hb)
      have hlt' : (i : Int) < (Q.length : Int) := by omega
      have hi0 : (0 : Int) ≤ (i : Int) := by omega
      cases hr : rokB S (q.a, q.h, q.L)
      · have hv := Lib.hid (dokB_bad (S := S) (pM_at hQi) hr)
        clear hQi
        go_wp2_with fail
        refine (rGood_any _ _ _ _ S q.a q.h q.L _ hs hm (hSh.out.below (by exact (by repeat (first | exact Below.refl _ _ | assumption | refine Below.drew ?_ | refine below_drewN ?_ _ | refine Below.alloc' ?_ _ | (refine Below.setCell ?_ (by first | omega | (simp; done) | (simp; omega) | exact Below.size (by assumption) | exact Nat.le_trans (Below.size (by assumption)) (by simp)) _) | (refine Below.via' ?_ (by assumption)) | (refine Below.alloc ?_ (by first | omega | (simp; done) | (simp; omega) | exact Below.size (by assumption) | exact Nat.le_trans (Below.size (by assumption)) (by simp)) _) | (refine Below.via ?_ (by assumption) (by first | omega | (simp; done) | (simp; omega) | exact Below.size (by assumption) | exact Nat.le_trans (Below.size (by assumption)) (by simp))))))) (hq.out.below (by exact (by repeat (first | exact Below.refl _ _ | assumption | refine Below.drew ?_ | refine below_drewN ?_ _ | refine Below.alloc' ?_ _ | (refine Below.setCell ?_ (by first | omega | (simp; done) | (simp; omega) | exact Below.size (by assumption) | exact Nat.le_trans (Below.size (by assumption)) (by simp)) _) | (refine Below.via' ?_ (by assumption)) | (refine Below.alloc ?_ (by first | omega | (simp; done) | (simp; omega) | exact Below.size (by assumption) | exact Nat.le_trans (Below.size (by assumption)) (by simp)) _) | (refine Below.via ?_ (by assumption) (by first | omega | (simp; done) | (simp; omega) | exact Below.size (by assumption) | exact Nat.le_trans (Below.size (by assumption)) (by simp)))))))).mono ?_
        rintro e w2 ⟨rfl, hb2⟩
        rw [hr]
        go_wp2
        go_ret
        exact ⟨ret_bool hv.out.symm, (by repeat (first | exact Below.refl _ _ | assumption | refine Below.drew ?_ | refine below_drewN ?_ _ | refine Below.alloc' ?_ _ | (refine Below.setCell ?_ (by first | omega | (simp; done) | (simp; omega) | exact Below.size (by assumption) | exact Nat.le_trans (Below.size (by assumption)) (by simp)) _) | (refine Below.via' ?_ (by assumption)) | (refine Below.alloc ?_ (by first | omega | (simp; done) | (simp; omega) | exact Below.size (by assumption) | exact Nat.le_trans (Below.size (by assumption)) (by simp)) _) | (refine Below.via ?_ (by assumption) (by first | omega | (simp; done) | (simp; omega) | exact Below.size (by assumption) | exact Nat.le_trans (Below.size (by assumption)) (by simp)))))⟩
      · replace hQi := Lib.hid hQi
        go_wp2_with fail
        refine (rGood_any _ _ _ _ S q.a q.h q.L _ hs hm (hSh.out.below (by exact (by repeat (first | exact Below.refl _ _ | assumption | refine Below.drew ?_ | refine below_drewN ?_ _ | refine Below.alloc' ?_ _ | (refine Below.setCell ?_ (by first | omega | (simp; done) | (simp; omega) | exact Below.size (by assumption) | exact Nat.le_trans (Below.size (by assumption)) (by simp)) _) | (refine Below.via' ?_ (by assumption)) | (refine Below.alloc ?_ (by first | omega | (simp; done) | (simp; omega) | exact Below.size (by assumption) | exact Nat.le_trans (Below.size (by assumption)) (by simp)) _) | (refine Below.via ?_ (by assumption) (by first | omega | (simp; done) | (simp; omega) | exact Below.size (by assumption) | exact Nat.le_trans (Below.size (by assumption)) (by simp))))))) (hq.out.below (by exact (by repeat (first | exact Below.refl _ _ | assumption | refine Below.drew ?_ | refine below_drewN ?_ _ | refine Below.alloc' ?_ _ | (refine Below.setCell ?_ (by first | omega | (simp; done) | (simp; omega) | exact Below.size (by assumption) | exact Nat.le_trans (Below.size (by assumption)) (by simp)) _) | (refine Below.via' ?_ (by assumption)) | (refine Below.alloc ?_ (by first | omega | (simp; done) | (simp; omega) | exact Below.size (by assumption) | exact Nat.le_trans (Below.size (by assumption)) (by simp)) _) | (refine Below.via ?_ (by assumption) (by first | omega | (simp; done) | (simp; omega) | exact Below.size (by assumption) | exact Nat.le_trans (Below.size (by assumption)) (by simp)))))))).mono ?_
        rintro e w2 ⟨rfl, hb2⟩
        rw [hr]
        go_wp2
        go_roundw
        case rel =>
          refine ⟨i + 1, by omega, by go_num, fun j hj => ?_, (by repeat (first | exact Below.refl _ _ | assumption | refine Below.drew ?_ | refine below_drewN ?_ _ | refine Below.alloc' ?_ _ | (refine Below.setCell ?_ (by first | omega | (simp; done) | (simp; omega) | exact Below.size (by assumption) | exact Nat.le_trans (Below.size (by assumption)) (by simp)) _) | (refine Below.via' ?_ (by assumption)) | (refine Below.alloc ?_ (by first | omega | (simp; done) | (simp; omega) | exact Below.size (by assumption) | exact Nat.le_trans (Below.size (by assumption)) (by simp)) _) | (refine Below.via ?_ (by assumption) (by first | omega | (simp; done) | (simp; omega) | exact Below.size (by assumption) | exact Nat.le_trans (Below.size (by assumption)) (by simp)))))⟩
          rcases Nat.lt_or_ge j i with hj2 | hj2
          · exact hall.out j hj2
          · obtain rfl : j = i := by omega
            exact ⟨_, pM_at hQi.out, hr⟩
        case measure => simp [intOf]; omega
    · have hij : i = Q.length := by omega
      subst hij
      have hv := Lib.hid (dokB_all (S := S) (Q := pM Q) (by rw [pM_len]; exact hall.out))
      rw [pM_len] at hv
      clear hall
      by_cases hd : Q.length ≤ 40
      · rw [decide_eq_true hd] at hv
        go_wp2
        go_ret
        exact ⟨ret_bool ((decide_eq_true (by omega)).trans hv.out.symm), hb⟩
      · rw [decide_eq_false hd] at hv
        go_wp2
        go_ret
        exact ⟨ret_bool ((decide_eq_false (by omega)).trans hv.out.symm), hb⟩

theorem ret_bb {a b p q : Bool} (h : a = b) (k : p = q) : Ending.returned (.tuple #[.bool a, .bool p]) = .returned (.tuple #[.bool b, .bool q]) := by rw [h, k]
theorem dInput_any (x y : Option Addr) (c1 c2 : Nat) (S : List (ByteArray × Int)) (Q : List PR) (w : World) (h : SIn w x c1 S) (hQ : DIn w y Q) :
    Calls Try.prog 115 #[.slice x S.length c1, .slice y Q.length c2] w fun e w' => e = .returned (.bool (idB S (pM Q))) ∧ Below w.heap.size w w' := by
  have hm := h.1
  have hh := Lib.hid h
  have hQh := Lib.hid hQ
  clear h hQ
  cases hs : schB S
  · go_enter Try.func115, Try.ntmps115
    go_wp2_with fail
    refine (sGood_x _ _ _ _ (hh.out.below (by exact (by repeat (first | exact Below.refl _ _ | assumption | refine Below.drew ?_ | refine below_drewN ?_ _ | refine Below.alloc' ?_ _ | (refine Below.setCell ?_ (by first | omega | (simp; done) | (simp; omega) | exact Below.size (by assumption) | exact Nat.le_trans (Below.size (by assumption)) (by simp)) _) | (refine Below.via' ?_ (by assumption)) | (refine Below.alloc ?_ (by first | omega | (simp; done) | (simp; omega) | exact Below.size (by assumption) | exact Nat.le_trans (Below.size (by assumption)) (by simp)) _) | (refine Below.via ?_ (by assumption) (by first | omega | (simp; done) | (simp; omega) | exact Below.size (by assumption) | exact Nat.le_trans (Below.size (by assumption)) (by simp)))))))).mono ?_
    rintro e w1 ⟨rfl, hb1⟩
    rw [hs]
    go_wp2
    go_ret
    exact ⟨ret_bool (by unfold idB; rw [hs]; rfl), (by repeat (first | exact Below.refl _ _ | assumption | refine Below.drew ?_ | refine below_drewN ?_ _ | refine Below.alloc' ?_ _ | (refine Below.setCell ?_ (by first | omega | (simp; done) | (simp; omega) | exact Below.size (by assumption) | exact Nat.le_trans (Below.size (by assumption)) (by simp)) _) | (refine Below.via' ?_ (by assumption)) | (refine Below.alloc ?_ (by first | omega | (simp; done) | (simp; omega) | exact Below.size (by assumption) | exact Nat.le_trans (Below.size (by assumption)) (by simp)) _) | (refine Below.via ?_ (by assumption) (by first | omega | (simp; done) | (simp; omega) | exact Below.size (by assumption) | exact Nat.le_trans (Below.size (by assumption)) (by simp)))))⟩
  · go_enter Try.func115, Try.ntmps115
    go_wp2_with fail
    refine (sGood_x _ _ _ _ (hh.out.below (by exact (by repeat (first | exact Below.refl _ _ | assumption | refine Below.drew ?_ | refine below_drewN ?_ _ | refine Below.alloc' ?_ _ | (refine Below.setCell ?_ (by first | omega | (simp; done) | (simp; omega) | exact Below.size (by assumption) | exact Nat.le_trans (Below.size (by assumption)) (by simp)) _) | (refine Below.via' ?_ (by assumption)) | (refine Below.alloc ?_ (by first | omega | (simp; done) | (simp; omega) | exact Below.size (by assumption) | exact Nat.le_trans (Below.size (by assumption)) (by simp)) _) | (refine Below.via ?_ (by assumption) (by first | omega | (simp; done) | (simp; omega) | exact Below.size (by assumption) | exact Nat.le_trans (Below.size (by assumption)) (by simp)))))))).mono ?_
    rintro e w1 ⟨rfl, hb1⟩
    rw [hs]
    go_wp2_with fail
    refine (dGood_any _ _ _ _ S Q _ hs hm (hh.out.rd.below (by exact (by repeat (first | exact Below.refl _ _ | assumption | refine Below.drew ?_ | refine below_drewN ?_ _ | refine Below.alloc' ?_ _ | (refine Below.setCell ?_ (by first | omega | (simp; done) | (simp; omega) | exact Below.size (by assumption) | exact Nat.le_trans (Below.size (by assumption)) (by simp)) _) | (refine Below.via' ?_ (by assumption)) | (refine Below.alloc ?_ (by first | omega | (simp; done) | (simp; omega) | exact Below.size (by assumption) | exact Nat.le_trans (Below.size (by assumption)) (by simp)) _) | (refine Below.via ?_ (by assumption) (by first | omega | (simp; done) | (simp; omega) | exact Below.size (by assumption) | exact Nat.le_trans (Below.size (by assumption)) (by simp))))))) (hQh.out.below (by exact (by repeat (first | exact Below.refl _ _ | assumption | refine Below.drew ?_ | refine below_drewN ?_ _ | refine Below.alloc' ?_ _ | (refine Below.setCell ?_ (by first | omega | (simp; done) | (simp; omega) | exact Below.size (by assumption) | exact Nat.le_trans (Below.size (by assumption)) (by simp)) _) | (refine Below.via' ?_ (by assumption)) | (refine Below.alloc ?_ (by first | omega | (simp; done) | (simp; omega) | exact Below.size (by assumption) | exact Nat.le_trans (Below.size (by assumption)) (by simp)) _) | (refine Below.via ?_ (by assumption) (by first | omega | (simp; done) | (simp; omega) | exact Below.size (by assumption) | exact Nat.le_trans (Below.size (by assumption)) (by simp)))))))).mono ?_
    rintro e w2 ⟨rfl, hb2⟩
    go_wp2
    go_ret
    exact ⟨ret_bool (by unfold idB; rw [hs]; rfl), (by repeat (first | exact Below.refl _ _ | assumption | refine Below.drew ?_ | refine below_drewN ?_ _ | refine Below.alloc' ?_ _ | (refine Below.setCell ?_ (by first | omega | (simp; done) | (simp; omega) | exact Below.size (by assumption) | exact Nat.le_trans (Below.size (by assumption)) (by simp)) _) | (refine Below.via' ?_ (by assumption)) | (refine Below.alloc ?_ (by first | omega | (simp; done) | (simp; omega) | exact Below.size (by assumption) | exact Nat.le_trans (Below.size (by assumption)) (by simp)) _) | (refine Below.via ?_ (by assumption) (by first | omega | (simp; done) | (simp; omega) | exact Below.size (by assumption) | exact Nat.le_trans (Below.size (by assumption)) (by simp)))))⟩
end Go.Proofs.Ytgkaalonmkcclaa

namespace Go.Proofs.Ytgkaalonmkcclaa
open Go.ChangeShapes Go.WideShapes Go.ChangeAt Go.RowKit
open Go.Joins
set_option maxRecDepth 100000

instance : Inhabited PR := ⟨⟨0, 0, none, 0, []⟩⟩
theorem cellsR : Try.prog.cellsOf 68 = 3 := by kernel_rfl
/-- A record that comes in. -/
theorem open_rec {H : Type} {enc : TypeId × Value → H} {W : World} {base : Nat} {v : Value} {d : DataW H} {p : List MemPlace} (hv : Value.okWide Try.prog W .any base 68 v)
    (h : DataW.Trod enc Try.prog W 0 (fun _ => true) true 68 v d p) : ∃ a h x cap L, v = .agg #[.int .i64 a, .int .i64 h, .slice x L.length cap] ∧ L.length ≤ 9223372036854775807 ∧ IsI64 a ∧ IsI64 h ∧ Hid (∀ n ∈ L, IsI64 n) ∧ Hid (Rd W x (iC L)) := by
  obtain ⟨c0, c1, c2, y0, y1, y2, m, rfl, rfl, rfl, hy0, hy1, hy2⟩ := open_agg3 Try.underlying68 (by kernel_rfl) cellsR hv h
  obtain ⟨a, e0, rfl, wa⟩ := DataW.trod_int Try.underlying3 hy0
  obtain ⟨b, e1, rfl, wb⟩ := DataW.trod_int Try.underlying3 hy1
  obtain ⟨x, cap, L, hcs, hl, hn, hr⟩ := open_intC hy2
  simp at e0 e1 hcs
  subst e0 e1 hcs
  exact ⟨a, b, x, cap, L, rfl, hl, isI64_of_wf wa, isI64_of_wf wb, hn, hr⟩

/-- A record out of its three cells. -/
theorem open_recC {H : Type} {enc : TypeId × Value → H} {W : World} {fuel : Nat} {cs : List Value} {z : DataW H × List MemPlace} (hl : cs.length = 3)
    (hf : DataW.trod enc Try.prog W 0 (fun _ => true) true fuel 68 cs = some z) : ∃ q : PR, cs = q.cs ∧ ROk0 W q := by
  obtain ⟨y0, y1, y2, n, rfl, hlen, h0, h1, h2⟩ := Deep.trod_struct3 Try.underlying68 hf
  match cs, hl with
  | [v0, v1, v2], _ =>
    simp only [show Try.prog.cellsOf 3 = 1 from cInt, show Try.prog.cellsOf 22 = 1 from by kernel_rfl, List.drop_zero, List.drop_succ_cons, List.take_succ_cons, List.take_zero] at h0 h1 h2
    obtain ⟨a, e0, _, wa⟩ := DataW.trod_int Try.underlying3 h0
    obtain ⟨b, e1, _, wb⟩ := DataW.trod_int Try.underlying3 h1
    obtain ⟨x, cap, L, hcs, hl, hn, hr⟩ := open_intC h2
    simp at e0 e1 hcs
    subst e0 e1 hcs
    exact ⟨⟨a, b, x, cap, L⟩, rfl, hl, isI64_of_wf wa, isI64_of_wf wb, hn.out, hr.out⟩

/-- A list of records that comes in. -/
theorem open_recs {H : Type} {enc : TypeId × Value → H} {W : World} {base : Nat} {v : Value} {d : DataW H} {p : List MemPlace} (hv : Value.okWide Try.prog W .any base 56 v)
    (h : DataW.Trod enc Try.prog W 0 (fun _ => true) true 56 v d p) : ∃ x cap Q, v = .slice x Q.length cap ∧ Hid (DIn0 W x Q) ∧ Q.length ≤ 9223372036854775807 := by
  obtain ⟨a0, len, cap, rfl⟩ := okWide_slice Try.underlying56 hv
  obtain ⟨fuel, hf⟩ := h
  rcases Deep.open_slice Try.underlying56 hf with ⟨hcs, _⟩ | ⟨a, len', cap', m, n, D, P0, hcs, _, hl, hm, hmm, _, hi⟩
  · simp [Value.cells] at hcs
    obtain ⟨rfl, rfl, rfl⟩ := hcs
    exact ⟨none, 0, [], rfl, (show DIn0 W none [] from ⟨by simp, fun q hq => (by cases hq), Or.inl rfl⟩), by simp⟩
  · simp [Value.cells] at hcs
    obtain ⟨rfl, rfl, rfl⟩ := hcs
    simp only [if_true] at hmm
    subst hmm
    have each : ∀ i, i < m → ∃ q : PR, W.cell? (a.add (i * 3)) = some (.int .i64 q.a) ∧ W.cell? (a.add (i * 3 + 1)) = some (.int .i64 q.h) ∧ W.cell? (a.add (i * 3 + 2)) = some q.v ∧ ROk0 W q := by
      intro i him
      obtain ⟨cs, h1, h2⟩ := hi i him
      rw [cellsR] at h1
      obtain ⟨_, hlen, hcell⟩ := World.cells?_some h1
      obtain ⟨q, rfl, hq⟩ := open_recC hlen h2
      have e0 := hcell 0 (by omega)
      have e1 := hcell 1 (by omega)
      have e2 := hcell 2 (by omega)
      rw [Deep.add_add] at e0 e1 e2
      exact ⟨q, by simpa [PR.cs] using e0, by simpa [PR.cs] using e1, by simpa [PR.cs] using e2, hq⟩
    obtain ⟨q, hq⟩ := Deep.choose_lt each
    have hlen : ((List.range len).map q).length = len := by simp
    refine ⟨some a, m, (List.range len).map q, by rw [hlen], (show DIn0 W (some a) _ from ⟨by rw [hlen]; unfold maxLen at hm; omega, fun r hr => ?_, ?_⟩), by rw [hlen]; unfold maxLen at hm; omega⟩
    · obtain ⟨i, hi1, rfl⟩ := List.mem_map.1 hr
      exact (hq i (by have := List.mem_range.1 hi1; omega)).2.2.2
    by_cases h0 : len = 0
    · subst h0
      exact Or.inl (by simp [pC])
    obtain ⟨b, off, spot⟩ := a
    have hc0 := (hq 0 (by omega)).1
    have hspot : spot = none := by simpa [Addr.add] using World.cell?_spot hc0
    subst hspot
    have hblk : b < W.heap.size := World.block_lt_of_cell? W _ (by simpa [Addr.add] using hc0)
    refine Or.inr ⟨b, off, rfl, hblk, fun j u hj => ?_⟩
    have hjl : j < len * 3 := by
      have := (List.getElem?_eq_some_iff.1 hj).1
      rw [pC_len, hlen] at this
      exact this
    have hat : ∀ i, i < len → ((List.range len).map q)[i]? = some (q i) := by
      intro i hil
      rw [List.getElem?_map, List.getElem?_range hil]
      rfl
    obtain ⟨k0, k1, k2, _⟩ := hq (j / 3) (by omega)
    rw [addr_add] at k0 k1 k2
    rcases (by omega : j = (j / 3) * 3 ∨ j = (j / 3) * 3 + 1 ∨ j = (j / 3) * 3 + 2) with e | e | e
    · have := pC_at0 (hat (j / 3) (by omega))
      rw [← e, hj] at this
      cases this
      rw [← e] at k0
      exact k0
    · have := pC_at1 (hat (j / 3) (by omega))
      rw [← e, hj] at this
      cases this
      rw [← e] at k1
      exact k1
    · have := pC_at2 (hat (j / 3) (by omega))
      rw [← e, hj] at this
      cases this
      rw [← e] at k2
      exact k2

/-- The record that the law has copied can be read as one. -/
theorem IIn.of_owR {w : World} {lo hi : Nat} {ti : TypeId} {x : Option Addr} {c : Nat} {L : List Int} (h : OwR w lo hi ti 1 (.slice x L.length c) L.length (iC L)) (hl : L.length ≤ 1048576) (hn : ∀ n ∈ L, IsI64 n) : IIn w x L := ⟨hl, hn, h.rd⟩
/-- The records that the law has copied can be read as data: their numbers are those that came in. -/
theorem DIn.of_owD {w W : World} {lo hi : Nat} {tr ti : TypeId} {x y : Option Addr} {c : Nat} {T Q : List PR} (h : OwD w lo hi tr ti (.slice x T.length c) T) (hT : pM T = pM Q) (hQ : DIn0 W y Q) (hl : Q.length ≤ 1048576) (ht : tot Q ≤ 1048576) : DIn w x T := by
  refine ⟨by rw [pM_length hT]; exact hl, fun t hm => ?_, h.1.rd⟩
  obtain ⟨i, hi, e⟩ := List.getElem_of_mem hm
  have hTi : T[i]? = some t := by rw [List.getElem?_eq_getElem hi, e]
  have hQl : i < Q.length := by rw [← pM_length hT]; exact hi
  have hQi : Q[i]? = some Q[i] := List.getElem?_eq_getElem hQl
  obtain ⟨e1, e2, e3⟩ := pM_get hT hQi hTi
  obtain ⟨_, g1, g2, g3, _⟩ := hQ.2.1 Q[i] (List.getElem_mem hQl)
  have := tot_mem (List.getElem_mem hQl)
  refine ⟨by rw [e1]; exact g1, by rw [e2]; exact g2, by rw [e3]; omega, by rw [e3]; exact g3, (h.2.1.1 t hm).rd⟩
theorem DIn.inn {w : World} {x : Option Addr} {Q : List PR} (h : DIn w x Q) : ∀ q ∈ Q, Rd w q.x (iC q.L) := fun q hq => (h.2.1 q hq).2.2.2.2
theorem DIn.len {w : World} {x : Option Addr} {Q : List PR} (h : DIn w x Q) : Q.length ≤ 9223372036854775807 ∧ ∀ q ∈ Q, q.L.length ≤ 9223372036854775807 := ⟨by have := h.1; omega, fun q hq => by have := (h.2.1 q hq).2.2.1; omega⟩
end Go.Proofs.Ytgkaalonmkcclaa

namespace Go.Proofs.Ytgkaalonmkcclaa
open Go.ChangeShapes Go.WideShapes Go.ChangeAt Go.RowKit
open Go.Joins Go.Deep
set_option maxRecDepth 100000

/-- Block g holds a table. -/
def TQ (w : World) (g : Nat) (l : Int) (x : Option Addr) (n c : Nat) (z : Option Addr) (k d : Nat) (m : Int) : Prop :=
  w.cell? ⟨g, 0, none⟩ = some (.int .i64 l) ∧ w.cell? ⟨g, 1, none⟩ = some (.slice x n c) ∧ w.cell? ⟨g, 2, none⟩ = some (.slice z k d) ∧ w.cell? ⟨g, 3, none⟩ = some (.int .i64 m) ∧ g < w.heap.size
section
variable {w w' : World} {g : Nat} {l : Int} {x : Option Addr} {n c : Nat} {z : Option Addr} {k d : Nat} {m : Int}
theorem TQ.new (w : World) (l : Int) (x : Option Addr) (n c : Nat) (z : Option Addr) (k d : Nat) (m : Int) (t : TypeId) : TQ (w.alloc (.cells #[.int .i64 l, .slice x n c, .slice z k d, .int .i64 m] t)) w.heap.size l x n c z k d m := by
  have h := Wb.new w t #[.int .i64 l, .slice x n c, .slice z k d, .int .i64 m]
  exact ⟨(h.read 0).trans rfl, (h.read 1).trans rfl, (h.read 2).trans rfl, (h.read 3).trans rfl, h.inside⟩
theorem TQ.of_block (h : TQ w g l x n c z k d m) (e : w'.heap[g]? = w.heap[g]?) (hs : w.heap.size ≤ w'.heap.size) : TQ w' g l x n c z k d m :=
  ⟨(World.cell?_of_block (a := ⟨g, 0, none⟩) e).trans h.1, (World.cell?_of_block (a := ⟨g, 1, none⟩) e).trans h.2.1, (World.cell?_of_block (a := ⟨g, 2, none⟩) e).trans h.2.2.1, (World.cell?_of_block (a := ⟨g, 3, none⟩) e).trans h.2.2.2.1, Nat.lt_of_lt_of_le h.2.2.2.2 hs⟩
theorem TQ.below (h : TQ w g l x n c z k d m) (hb : Below w.heap.size w w') : TQ w' g l x n c z k d m := h.of_block (hb.block g h.2.2.2.2) hb.size
theorem TQ.grown {r : Option Nat} (h : TQ w g l x n c z k d m) (hg : w.grownBy w' r) (hne : some g ≠ r) : TQ w' g l x n c z k d m := h.of_block (hg.block g h.2.2.2.2 hne) hg.size
theorem TQ.off {lo hi : Nat} (h : TQ w g l x n c z k d m) (hg : Off lo hi w w') (hne : g < lo ∨ hi ≤ g) : TQ w' g l x n c z k d m := h.of_block (hg.block g h.2.2.2.2 hne) hg.size
end
theorem QB.off {w w' : World} {lo hi g : Nat} {y : Option Addr} {n c : Nat} (h : QB w g y n c) (hg : Off lo hi w w') (hne : g < lo ∨ hi ≤ g) : QB w' g y n c := by
  have e := hg.block g h.2.2 hne
  exact ⟨(World.cell?_of_block (a := ⟨g, 0, none⟩) e).trans h.1, (World.frozen?_of_block (a := ⟨g, 0, none⟩) e).trans h.2.1, Nat.lt_of_lt_of_le h.2.2 hg.size⟩
/-- A table's two lists that come in. -/
def TIn (w : World) (x z : Option Addr) (F W : List Int) : Prop := IIn w x F ∧ IIn w z W
theorem TIn.below {w w' : World} {x z : Option Addr} {F W : List Int} (h : TIn w x z F W) (hb : Below w.heap.size w w') : TIn w' x z F W := ⟨h.1.below hb, h.2.below hb⟩
/-- A table's two lists that are owned: apart from each other. -/
def OwT (w : World) (lo hi : Nat) (u v : Value) (F W : List Int) : Prop := ∃ mid, lo ≤ mid ∧ mid ≤ hi ∧ OwR w lo mid 3 1 u F.length (iC F) ∧ OwR w mid hi 3 1 v W.length (iC W)
section
variable {w w' : World} {lo hi : Nat} {u v : Value} {F W : List Int}
theorem OwT.below (h : OwT w lo hi u v F W) (hb : Below w.heap.size w w') : OwT w' lo hi u v F W := by
  obtain ⟨mid, h1, h2, a, b⟩ := h
  exact ⟨mid, h1, h2, a.below hb, b.below hb⟩
theorem OwT.off {lo2 hi2 : Nat} (h : OwT w lo hi u v F W) (hg : Off lo2 hi2 w w') (hne : hi ≤ lo2 ∨ hi2 ≤ lo) : OwT w' lo hi u v F W := by
  obtain ⟨mid, h1, h2, a, b⟩ := h
  exact ⟨mid, h1, h2, a.off hg (by omega), b.off hg (by omega)⟩
theorem OwT.keep {r : Option Nat} (h : OwT w lo hi u v F W) (hg : w.grownBy w' r) (hr : ∀ k, r = some k → k < lo ∨ hi ≤ k) : OwT w' lo hi u v F W := by
  obtain ⟨mid, h1, h2, a, b⟩ := h
  exact ⟨mid, h1, h2, a.keep hg (fun k hk => by have := hr k hk; omega), b.keep hg (fun k hk => by have := hr k hk; omega)⟩
end
theorem TIn.of_owT {w : World} {lo hi : Nat} {x z : Option Addr} {c d : Nat} {F W : List Int} (h : OwT w lo hi (.slice x F.length c) (.slice z W.length d) F W) (hF : F.length ≤ 1048576) (hW : W.length ≤ 1048576) (hnF : ∀ n ∈ F, IsI64 n) (hnW : ∀ n ∈ W, IsI64 n) : TIn w x z F W := by
  obtain ⟨mid, h1, h2, a, b⟩ := h
  exact ⟨⟨hF, hnF, a.rd⟩, ⟨hW, hnW, b.rd⟩⟩

/-- A size, in words that go on. -/
def SzQ (left : Int) (len : Nat) (w : World) (e : Ending) (w' : World) : Prop := ∃ r : Int, e = .returned (.int .i64 r) ∧ r ≤ left ∧ -1 ≤ r ∧ (0 ≤ r → r + len = left) ∧ Below w.heap.size w w'
theorem szGeo_x (y : Option Addr) (len cap : Nat) (left : Int) (w : World) (hl : 0 ≤ left) (h : left ≤ 1048576) (hm : len ≤ 9223372036854775807) :
    Calls Try.prog 13 #[.agg #[.slice y len cap], .int .i64 left] w (SzQ left len w) :=
  (szGeo_any y len cap left w hl h hm).mono fun e w' ⟨he, hb⟩ => ⟨szZ left len, he, by unfold szZ; split <;> omega, by unfold szZ; split <;> omega, by unfold szZ; split <;> omega, hb⟩
theorem szRecord_x (a h' : Int) (y : Option Addr) (len cap : Nat) (left : Int) (w : World) (hl : 0 ≤ left) (h : left ≤ 1048576) (hm : len ≤ 9223372036854775807) :
    Calls Try.prog 45 #[.agg #[.int .i64 a, .int .i64 h', .slice y len cap], .int .i64 left] w (SzQ left len w) :=
  (szRecord_any a h' y len cap left w hl h hm).mono fun e w' ⟨he, hb⟩ => ⟨szZ left len, he, by unfold szZ; split <;> omega, by unfold szZ; split <;> omega, by unfold szZ; split <;> omega, hb⟩
theorem szTable_x (l : Int) (x : Option Addr) (n c : Nat) (z : Option Addr) (k d : Nat) (m : Int) (left : Int) (w : World) (hl : 0 ≤ left) (h : left ≤ 1048576) (hn : n ≤ 9223372036854775807) (hk : k ≤ 9223372036854775807) :
    Calls Try.prog 15 #[.agg #[.int .i64 l, .slice x n c, .slice z k d, .int .i64 m], .int .i64 left] w (SzQ left (n + k) w) := by
  have hb := szZ_bd left n hl
  have e1 : szZ left n = -1 ∧ left < n ∨ szZ left n = left - n ∧ 0 ≤ left - n := by unfold szZ; split <;> omega
  by_cases hn1 : szZ left n < 0
  · go_enter Try.func15, Try.ntmps15
    go_wp2_with (go_at_call 57; refine (szIntS_any _ _ _ _ _ hl h hn).mono ?_; rintro e w1 ⟨rfl, rfl⟩)
    go_ret
    exact ⟨-1, rfl, by omega, by omega, by omega, (by repeat (first | exact Below.refl _ _ | assumption | refine Below.drew ?_ | refine below_drewN ?_ _ | refine Below.alloc' ?_ _ | (refine Below.setCell ?_ (by first | omega | (simp; done) | (simp; omega) | exact Below.size (by assumption) | exact Nat.le_trans (Below.size (by assumption)) (by simp)) _) | (refine Below.via' ?_ (by assumption)) | (refine Below.alloc ?_ (by first | omega | (simp; done) | (simp; omega) | exact Below.size (by assumption) | exact Nat.le_trans (Below.size (by assumption)) (by simp)) _) | (refine Below.via ?_ (by assumption) (by first | omega | (simp; done) | (simp; omega) | exact Below.size (by assumption) | exact Nat.le_trans (Below.size (by assumption)) (by simp)))))⟩
  have hl2 : 0 ≤ szZ left n := by omega
  have h2 : szZ left n ≤ 1048576 := by omega
  have e2 : szZ (szZ left n) k = -1 ∧ szZ left n < k ∨ szZ (szZ left n) k = szZ left n - k ∧ 0 ≤ szZ left n - k := by unfold szZ at hl2 ⊢; split <;> omega
  by_cases hn2 : szZ (szZ left n) k < 0
  · go_enter Try.func15, Try.ntmps15
    go_wp2_with fail
    refine (szIntS_any _ _ _ _ _ hl h hn).mono ?_
    rintro e w1 ⟨rfl, rfl⟩
    go_wp2_with fail
    refine (szIntS_any _ _ _ _ _ hl2 h2 hk).mono ?_
    rintro e w2 ⟨rfl, rfl⟩
    go_wp2
    go_ret
    exact ⟨-1, rfl, by omega, by omega, by omega, (by repeat (first | exact Below.refl _ _ | assumption | refine Below.drew ?_ | refine below_drewN ?_ _ | refine Below.alloc' ?_ _ | (refine Below.setCell ?_ (by first | omega | (simp; done) | (simp; omega) | exact Below.size (by assumption) | exact Nat.le_trans (Below.size (by assumption)) (by simp)) _) | (refine Below.via' ?_ (by assumption)) | (refine Below.alloc ?_ (by first | omega | (simp; done) | (simp; omega) | exact Below.size (by assumption) | exact Nat.le_trans (Below.size (by assumption)) (by simp)) _) | (refine Below.via ?_ (by assumption) (by first | omega | (simp; done) | (simp; omega) | exact Below.size (by assumption) | exact Nat.le_trans (Below.size (by assumption)) (by simp)))))⟩
  · go_enter Try.func15, Try.ntmps15
    go_wp2_with fail
    refine (szIntS_any _ _ _ _ _ hl h hn).mono ?_
    rintro e w1 ⟨rfl, rfl⟩
    go_wp2_with fail
    refine (szIntS_any _ _ _ _ _ hl2 h2 hk).mono ?_
    rintro e w2 ⟨rfl, rfl⟩
    go_wp2
    go_ret
    exact ⟨_, rfl, by omega, by omega, fun _ => by omega, (by repeat (first | exact Below.refl _ _ | assumption | refine Below.drew ?_ | refine below_drewN ?_ _ | refine Below.alloc' ?_ _ | (refine Below.setCell ?_ (by first | omega | (simp; done) | (simp; omega) | exact Below.size (by assumption) | exact Nat.le_trans (Below.size (by assumption)) (by simp)) _) | (refine Below.via' ?_ (by assumption)) | (refine Below.alloc ?_ (by first | omega | (simp; done) | (simp; omega) | exact Below.size (by assumption) | exact Nat.le_trans (Below.size (by assumption)) (by simp)) _) | (refine Below.via ?_ (by assumption) (by first | omega | (simp; done) | (simp; omega) | exact Below.size (by assumption) | exact Nat.le_trans (Below.size (by assumption)) (by simp)))))⟩

/-- A table that the law has copied. -/
def TbPost (l : Int) (F W : List Int) (m : Int) (w : World) (e : Ending) (w' : World) : Prop :=
  ∃ g f, e = .returned (.agg #[.int .i64 l, .slice (some ⟨g, 0, none⟩) F.length F.length, .slice (some ⟨f, 0, none⟩) W.length W.length, .int .i64 m]) ∧ OwT w' w.heap.size w'.heap.size (.slice (some ⟨g, 0, none⟩) F.length F.length) (.slice (some ⟨f, 0, none⟩) W.length W.length) F W ∧ Below w.heap.size w w'
set_option maxHeartbeats 2000000 in
theorem toTable_any (l : Int) (x z : Option Addr) (c d : Nat) (F W : List Int) (m : Int) (w : World) (hmF : F.length ≤ 1048576) (hmW : W.length ≤ 1048576) (hF : Rd w x (iC F)) (hW : Rd w z (iC W)) :
    Calls Try.prog 19 #[.agg #[.int .i64 l, .slice x F.length c, .slice z W.length d, .int .i64 m]] w (TbPost l F W m w) := by
  have hFh := Lib.hid hF
  have hWh := Lib.hid hW
  clear hF hW
  have hq := Lib.hid (TQ.new w l x F.length c z W.length d m 27)
  go_enter Try.func19, Try.ntmps19
  go_wp2_with fail
  refine (toIntS_any _ _ _ _ hmF (hFh.out.below (by exact (by repeat (first | exact Below.refl _ _ | assumption | refine Below.drew ?_ | refine below_drewN ?_ _ | refine Below.alloc' ?_ _ | (refine Below.setCell ?_ (by first | omega | (simp; done) | (simp; omega) | exact Below.size (by assumption) | exact Nat.le_trans (Below.size (by assumption)) (by simp)) _) | (refine Below.via' ?_ (by assumption)) | (refine Below.alloc ?_ (by first | omega | (simp; done) | (simp; omega) | exact Below.size (by assumption) | exact Nat.le_trans (Below.size (by assumption)) (by simp)) _) | (refine Below.via ?_ (by assumption) (by first | omega | (simp; done) | (simp; omega) | exact Below.size (by assumption) | exact Nat.le_trans (Below.size (by assumption)) (by simp)))))))).mono ?_
  rintro e w1 ⟨rfl, ho1, hb1⟩
  obtain ⟨hcl1, hfr1⟩ := bcell hb1
  have hz1 := hb1.size; (try simp at hz1); (try (have hly1 := Nat.lt_of_succ_le hz1)); (try (have hlx1 := Nat.lt_of_succ_lt hly1)); (try (have hlw1 := Nat.lt_of_succ_lt hlx1)); (try (have hle1 := Nat.le_of_lt hly1))
  have hoh := Lib.hid ho1
  clear ho1
  have B1 : Below w.heap.size w w1 := (by repeat (first | exact Below.refl _ _ | assumption | refine Below.drew ?_ | refine below_drewN ?_ _ | refine Below.alloc' ?_ _ | (refine Below.setCell ?_ (by first | omega | (simp; done) | (simp; omega) | exact Below.size (by assumption) | exact Nat.le_trans (Below.size (by assumption)) (by simp)) _) | (refine Below.via' ?_ (by assumption)) | (refine Below.alloc ?_ (by first | omega | (simp; done) | (simp; omega) | exact Below.size (by assumption) | exact Nat.le_trans (Below.size (by assumption)) (by simp)) _) | (refine Below.via ?_ (by assumption) (by first | omega | (simp; done) | (simp; omega) | exact Below.size (by assumption) | exact Nat.le_trans (Below.size (by assumption)) (by simp)))))
  have hb1 := Lib.hid hb1
  go_wp2_with fail
  refine (toIntS_any _ _ _ _ hmW (hWh.out.below (by exact (by repeat (first | exact Below.refl _ _ | assumption | refine Below.drew ?_ | refine below_drewN ?_ _ | refine Below.alloc' ?_ _ | (refine Below.setCell ?_ (by first | omega | (simp; done) | (simp; omega) | exact Below.size (by assumption) | exact Nat.le_trans (Below.size (by assumption)) (by simp)) _) | (refine Below.via' ?_ (by assumption)) | (refine Below.alloc ?_ (by first | omega | (simp; done) | (simp; omega) | exact Below.size (by assumption) | exact Nat.le_trans (Below.size (by assumption)) (by simp)) _) | (refine Below.via ?_ (by assumption) (by first | omega | (simp; done) | (simp; omega) | exact Below.size (by assumption) | exact Nat.le_trans (Below.size (by assumption)) (by simp)))))))).mono ?_
  rintro e w2 ⟨rfl, ho2, hb2⟩
  simp only [World.size_setCell] at ho2
  obtain ⟨hcl2, hfr2⟩ := bcell hb2
  have hz2 := hb2.size
  simp at hz2
  have hl2 : w.heap.size + 1 + 1 < w2.heap.size := by omega
  have hl3 : w.heap.size + 1 < w2.heap.size := by omega
  have hl4 : w.heap.size < w2.heap.size := by omega
  have hlt2 : w1.heap.size < w2.heap.size := (own_lt ho2).2
  have ho2h := Lib.hid ho2
  clear ho2
  have B2 : Below w.heap.size w w2 := (by repeat (first | exact Below.refl _ _ | assumption | refine Below.drew ?_ | refine below_drewN ?_ _ | refine Below.alloc' ?_ _ | (refine Below.setCell ?_ (by first | omega | (simp; done) | (simp; omega) | exact Below.size (by assumption) | exact Nat.le_trans (Below.size (by assumption)) (by simp)) _) | (refine Below.via' ?_ (by assumption)) | (refine Below.alloc ?_ (by first | omega | (simp; done) | (simp; omega) | exact Below.size (by assumption) | exact Nat.le_trans (Below.size (by assumption)) (by simp)) _) | (refine Below.via ?_ (by assumption) (by first | omega | (simp; done) | (simp; omega) | exact Below.size (by assumption) | exact Nat.le_trans (Below.size (by assumption)) (by simp)))))
  have ho3 : w1.ownsRow (w.heap.size + 1 + 1 + 1) 3 1 (.slice (some ⟨w.heap.size + 1 + 1 + 1, 0, none⟩) F.length F.length) F.length (iC F) := by simpa using hoh.out
  have ho4 : w2.ownsRow (w.heap.size + 1 + 1 + 1) 3 1 (.slice (some ⟨w.heap.size + 1 + 1 + 1, 0, none⟩) F.length F.length) F.length (iC F) := own_below (ownsRow_setCell_below ho3 (by simp) _) hb2
  have ho4 := Lib.hid ho4
  have hz1' : w.heap.size + 1 + 1 + 1 < w1.heap.size := (own_lt ho3).2
  clear ho3 hoh
  go_wp2
  refine bodyPost_ret (v := .agg #[.int .i64 l, .slice (some ⟨w.heap.size + 1 + 1 + 1, 0, none⟩) F.length F.length, .slice (some ⟨w1.heap.size, 0, none⟩) W.length W.length, .int .i64 m]) (by simp [results, Try.results19, go_sem, *]) rfl ⟨_, _, rfl, ⟨w1.heap.size, by omega, by simp; omega, ⟨?_, ?_⟩, ⟨?_, ?_⟩⟩, ?_⟩
  · refine own_more (base := w.heap.size + 1 + 1 + 1) ?_ (by omega)
    repeat (refine ownsRow_setCell_below ?_ (by simp; try omega) _)
    exact ho4.out
  · intro k hk
    obtain rfl : w.heap.size + 1 + 1 + 1 = k := by injection hk
    omega
  · repeat (refine ownsRow_setCell_below ?_ (by simp; try omega) _)
    exact ho2h.out
  · intro k hk
    obtain rfl : w1.heap.size = k := by injection hk
    simp only [World.size_setCell]
    exact ⟨Nat.le_refl _, hlt2⟩
  · repeat (refine Below.setCell ?_ (by simp; try omega) _)
    exact B2

theorem eqTable_any (x z x2 z2 : Option Addr) {c d c2 d2 : Nat} (l m : Int) (F W : List Int) (w : World) (hmF : F.length ≤ 9223372036854775807) (hmW : W.length ≤ 9223372036854775807) (hX : TIn w x z F W) (hY : TIn w x2 z2 F W) :
    Calls Try.prog 23 #[.agg #[.int .i64 l, .slice x F.length c, .slice z W.length d, .int .i64 m], .agg #[.int .i64 l, .slice x2 F.length c2, .slice z2 W.length d2, .int .i64 m]] w fun e w' => e = .returned (.bool true) ∧ Below w.heap.size w w' := by
  have hXh := Lib.hid hX
  have hYh := Lib.hid hY
  have q1 := Lib.hid (TQ.new w l x F.length c z W.length d m 37)
  have q2 := Lib.hid (TQ.new (w.alloc (.cells #[.int .i64 l, .slice x F.length c, .slice z W.length d, .int .i64 m] 37)) l x2 F.length c2 z2 W.length d2 m 37)
  have q1 := Lib.hid (q1.out.below (show Below (w.alloc (.cells #[.int .i64 l, .slice x F.length c, .slice z W.length d, .int .i64 m] 37)).heap.size (w.alloc (.cells #[.int .i64 l, .slice x F.length c, .slice z W.length d, .int .i64 m] 37)) ((w.alloc (.cells #[.int .i64 l, .slice x F.length c, .slice z W.length d, .int .i64 m] 37)).alloc (.cells #[.int .i64 l, .slice x2 F.length c2, .slice z2 W.length d2, .int .i64 m] 37)) from (by repeat (first | exact Below.refl _ _ | assumption | refine Below.drew ?_ | refine below_drewN ?_ _ | refine Below.alloc' ?_ _ | (refine Below.setCell ?_ (by first | omega | (simp; done) | (simp; omega) | exact Below.size (by assumption) | exact Nat.le_trans (Below.size (by assumption)) (by simp)) _) | (refine Below.via' ?_ (by assumption)) | (refine Below.alloc ?_ (by first | omega | (simp; done) | (simp; omega) | exact Below.size (by assumption) | exact Nat.le_trans (Below.size (by assumption)) (by simp)) _) | (refine Below.via ?_ (by assumption) (by first | omega | (simp; done) | (simp; omega) | exact Below.size (by assumption) | exact Nat.le_trans (Below.size (by assumption)) (by simp)))))))
  replace q2 := q2.out
  rw [World.size_alloc] at q2
  replace q2 := Lib.hid q2
  clear hX hY
  go_enter Try.func23, Try.ntmps23
  go_wp2_with fail
  refine (eqIntS_any _ _ _ _ _ _ hmF (hXh.out.1.2.2.below (by exact (by repeat (first | exact Below.refl _ _ | assumption | refine Below.drew ?_ | refine below_drewN ?_ _ | refine Below.alloc' ?_ _ | (refine Below.setCell ?_ (by first | omega | (simp; done) | (simp; omega) | exact Below.size (by assumption) | exact Nat.le_trans (Below.size (by assumption)) (by simp)) _) | (refine Below.via' ?_ (by assumption)) | (refine Below.alloc ?_ (by first | omega | (simp; done) | (simp; omega) | exact Below.size (by assumption) | exact Nat.le_trans (Below.size (by assumption)) (by simp)) _) | (refine Below.via ?_ (by assumption) (by first | omega | (simp; done) | (simp; omega) | exact Below.size (by assumption) | exact Nat.le_trans (Below.size (by assumption)) (by simp))))))) (hYh.out.1.2.2.below (by exact (by repeat (first | exact Below.refl _ _ | assumption | refine Below.drew ?_ | refine below_drewN ?_ _ | refine Below.alloc' ?_ _ | (refine Below.setCell ?_ (by first | omega | (simp; done) | (simp; omega) | exact Below.size (by assumption) | exact Nat.le_trans (Below.size (by assumption)) (by simp)) _) | (refine Below.via' ?_ (by assumption)) | (refine Below.alloc ?_ (by first | omega | (simp; done) | (simp; omega) | exact Below.size (by assumption) | exact Nat.le_trans (Below.size (by assumption)) (by simp)) _) | (refine Below.via ?_ (by assumption) (by first | omega | (simp; done) | (simp; omega) | exact Below.size (by assumption) | exact Nat.le_trans (Below.size (by assumption)) (by simp)))))))).mono ?_
  rintro e w1 ⟨rfl, hb1⟩
  have B1 : Below w.heap.size w w1 := (by repeat (first | exact Below.refl _ _ | assumption | refine Below.drew ?_ | refine below_drewN ?_ _ | refine Below.alloc' ?_ _ | (refine Below.setCell ?_ (by first | omega | (simp; done) | (simp; omega) | exact Below.size (by assumption) | exact Nat.le_trans (Below.size (by assumption)) (by simp)) _) | (refine Below.via' ?_ (by assumption)) | (refine Below.alloc ?_ (by first | omega | (simp; done) | (simp; omega) | exact Below.size (by assumption) | exact Nat.le_trans (Below.size (by assumption)) (by simp)) _) | (refine Below.via ?_ (by assumption) (by first | omega | (simp; done) | (simp; omega) | exact Below.size (by assumption) | exact Nat.le_trans (Below.size (by assumption)) (by simp)))))
  have p1 := Lib.hid (q1.out.below hb1)
  have p2 := Lib.hid (q2.out.below hb1)
  obtain ⟨pa, pb, pc, pd, pe⟩ := p1.out
  obtain ⟨qa, qb, qc, qd, qe⟩ := p2.out
  clear q1 q2
  go_wp2_with fail
  refine (eqIntS_any _ _ _ _ _ _ hmW (hXh.out.2.2.2.below B1) (hYh.out.2.2.2.below B1)).mono ?_
  rintro e w2 ⟨rfl, hb2⟩
  obtain ⟨pa2, pb2, pc2, pd2, pe2⟩ := p1.out.below hb2
  obtain ⟨qa2, qb2, qc2, qd2, qe2⟩ := p2.out.below hb2
  clear pa pb pc pd qa qb qc qd
  go_wp2
  go_ret
  exact ⟨rfl, (by repeat (first | exact Below.refl _ _ | assumption | refine Below.drew ?_ | refine below_drewN ?_ _ | refine Below.alloc' ?_ _ | (refine Below.setCell ?_ (by first | omega | (simp; done) | (simp; omega) | exact Below.size (by assumption) | exact Nat.le_trans (Below.size (by assumption)) (by simp)) _) | (refine Below.via' ?_ (by assumption)) | (refine Below.alloc ?_ (by first | omega | (simp; done) | (simp; omega) | exact Below.size (by assumption) | exact Nat.le_trans (Below.size (by assumption)) (by simp)) _) | (refine Below.via ?_ (by assumption) (by first | omega | (simp; done) | (simp; omega) | exact Below.size (by assumption) | exact Nat.le_trans (Below.size (by assumption)) (by simp)))))⟩

theorem markTable_any (l : Int) (x z : Option Addr) (c d : Nat) (m k : Int) (F W : List Int) (lo hi : Nat) (w : World) (hk : 0 ≤ k) (hk2 : k ≤ 100000000000) (hmF : F.length ≤ 1048576) (hmW : W.length ≤ 1048576) (hown : OwT w lo hi (.slice x F.length c) (.slice z W.length d) F W) :
    Calls Try.prog 34 #[.agg #[.int .i64 l, .slice x F.length c, .slice z W.length d, .int .i64 m], .int .i64 k] w fun e w' => e = .returned (.int .i64 (k + F.length + W.length)) ∧ Off lo hi w w' := by
  obtain ⟨mid, h1, h2, hF, hW⟩ := hown
  have q1 := Lib.hid (TQ.new w l x F.length c z W.length d m 37)
  have hbA : Below w.heap.size w (w.alloc (.cells #[.int .i64 l, .slice x F.length c, .slice z W.length d, .int .i64 m] 37)) := (by repeat (first | exact Below.refl _ _ | assumption | refine Below.drew ?_ | refine below_drewN ?_ _ | refine Below.alloc' ?_ _ | (refine Below.setCell ?_ (by first | omega | (simp; done) | (simp; omega) | exact Below.size (by assumption) | exact Nat.le_trans (Below.size (by assumption)) (by simp)) _) | (refine Below.via' ?_ (by assumption)) | (refine Below.alloc ?_ (by first | omega | (simp; done) | (simp; omega) | exact Below.size (by assumption) | exact Nat.le_trans (Below.size (by assumption)) (by simp)) _) | (refine Below.via ?_ (by assumption) (by first | omega | (simp; done) | (simp; omega) | exact Below.size (by assumption) | exact Nat.le_trans (Below.size (by assumption)) (by simp)))))
  have hFh := Lib.hid (hF.below hbA)
  have hWh := Lib.hid (hW.below hbA)
  have hlt := Lib.hid hF.1.lt
  clear hF hW
  go_enter Try.func34, Try.ntmps34
  go_wp2_with fail
  refine (markIntS_any _ _ _ _ _ _ _ hk (by omega) hmF hFh.out.1).mono ?_
  rintro e w1 ⟨rfl, -, hg1⟩
  have hw1 := Lib.hid (hWh.out.keep hg1 (fun k hk => by have := hFh.out.2 k hk; omega))
  obtain ⟨pa, pb, pc, pd, pe⟩ := q1.out.grown hg1 (fun e => by have := hlt.out _ e.symm; omega)
  have o1 := Lib.hid ((Off.of_below hbA).trans (Off.of_grown hg1 (fun k hk => (by have := hFh.out.2 k hk; omega : lo ≤ k ∧ k < hi))))
  clear hg1
  go_wp2_with fail
  refine (markIntS_any _ _ _ _ _ _ _ (by omega) (by omega) hmW hw1.out.1).mono ?_
  rintro e w2 ⟨rfl, -, hg2⟩
  have o2 := Lib.hid (o1.out.trans (Off.of_grown hg2 (fun k hk => (by have := hw1.out.2 k hk; omega : lo ≤ k ∧ k < hi))))
  clear hg2
  go_wp2
  go_ret
  exact ⟨rfl, o2.out⟩

theorem cellsT : Try.prog.cellsOf 27 = 4 := by kernel_rfl
/-- A table that comes in. -/
theorem open_table {H : Type} {enc : TypeId × Value → H} {W : World} {base : Nat} {v : Value} {d : DataW H} {p : List MemPlace} (hv : Value.okWide Try.prog W .any base 27 v)
    (h : DataW.Trod enc Try.prog W 0 (fun _ => true) true 27 v d p) : ∃ l x c F z e V m, v = .agg #[.int .i64 l, .slice x F.length c, .slice z V.length e, .int .i64 m] ∧ F.length ≤ 9223372036854775807 ∧ Hid (∀ n ∈ F, IsI64 n) ∧ Hid (Rd W x (iC F)) ∧ V.length ≤ 9223372036854775807 ∧ Hid (∀ n ∈ V, IsI64 n) ∧ Hid (Rd W z (iC V)) := by
  obtain ⟨c0, c1, c2, c3, y0, y1, y2, y3, n, rfl, rfl, rfl, hy0, hy1, hy2, hy3⟩ := open_agg4 Try.underlying27 (by kernel_rfl) cellsT hv h
  obtain ⟨a, e0, rfl, wa⟩ := DataW.trod_int Try.underlying3 hy0
  obtain ⟨b, e3, rfl, wb⟩ := DataW.trod_int Try.underlying3 hy3
  obtain ⟨x, c, F, hcs, hl, hn, hr⟩ := open_intC hy1
  obtain ⟨z, e, V, hcs2, hl2, hn2, hr2⟩ := open_intC hy2
  simp at e0 e3 hcs hcs2
  subst e0 e3 hcs hcs2
  exact ⟨a, x, c, F, z, e, V, b, rfl, hl, hn, hr, hl2, hn2, hr2⟩
end Go.Proofs.Ytgkaalonmkcclaa

namespace Go.Proofs.Ytgkaalonmkcclaa
open Go.RowKit
set_option maxRecDepth 100000

/-- Conditions and values that go with each other. -/
def TwF (W V : List Int) : Prop := W.length = V.length ∧ ∀ i, i < W.length → ∃ x v, W[i]? = some x ∧ V[i]? = some v ∧ 0 ≤ x ∧ x ≤ 255 ∧ 0 ≤ v ∧ v ≤ 8
theorem tw_fine {S : List (ByteArray × Int)} {W V : List Int} (hs : schB S = true) (hw : twB S W = true) (hf : fitB S V = true) : TwF W V := by
  have h1 := tw_len hw
  have h2 := fit_len hf
  refine ⟨by omega, fun i hi => ?_⟩
  have hW : W[i]? = some W[i] := List.getElem?_eq_getElem hi
  have hV : V[i]? = some (V[i]'(by omega)) := List.getElem?_eq_getElem _
  obtain ⟨nm, lv, hS, l1, l2, x0, -, x1⟩ := tw_get hs hw hW
  have := fit_get hf hS hV
  exact ⟨_, _, hW, hV, x0, x1, this.1, by omega⟩
theorem tw_pow {lv : Int} (h : 2 ≤ lv ∧ lv ≤ 8) : wrap64 (wrap64 (2 ^ lv.toNat) - 1) = 2 ^ lv.toNat - 1 := fl_eq h
theorem tw_kd {lv x : Int} (hx : x ≠ 0) : (kdZ lv x == 0) = !inB x 0 (2 ^ lv.toNat - 1) := by
  cases h : inB x 0 (2 ^ lv.toNat - 1)
  · rw [kdZ_no (by rw [inB_no] at h; unfold flZ; omega)]
    rfl
  · rw [inB_iff] at h
    have := kdZ_yes (lv := lv) (x := x) ⟨by omega, h.2⟩
    show (kdZ lv x == 0) = false
    rw [beq_eq_false_iff_ne]
    omega

set_option maxHeartbeats 2000000 in
theorem areCond_any (x y : Option Addr) (c1 c2 : Nat) (S : List (ByteArray × Int)) (W : List Int) (w : World) (hs : schB S = true) (hm : S.length ≤ 1048576) (hS : Rd w x (vC S)) (hW : IIn w y W) :
    Calls Try.prog 106 #[.slice x S.length c1, .slice y W.length c2] w fun e w' => e = .returned (.bool (twB S W)) ∧ Below w.heap.size w w' := by
  have hWl := hW.1
  have hWh := Lib.hid hW.2.2
  clear hW
  have hSh := Lib.hid hS
  clear hS
  have hsh := Lib.hid hs
  clear hs
  by_cases hl : W.length = S.length
  · have he1 : ((W.length : Int) == (S.length : Int)) = true := by rw [beq_iff_eq]; omega
    have he2 : ((W.length : Int) != (S.length : Int)) = false := by show (!((W.length : Int) == (S.length : Int))) = false; rw [he1]; rfl
    replace hl := Lib.hid hl
    go_enter Try.func106, Try.ntmps106
    go_wp2
    clear he1 he2
    go_loopw [14] (fun c wr => ∃ i : Nat, i ≤ S.length ∧ c = .int .i64 i ∧ Hid (∀ j, j < i → ∃ nm lv x, S[j]? = some (nm, lv) ∧ W[j]? = some x ∧ inB x 0 (2 ^ lv.toNat - 1) = true) ∧ Below w.heap.size w wr) (fun c _ => S.length - (intOf c).toNat)
    case atStart => exact ⟨0, by omega, rfl, (fun j hj => absurd hj (by omega)), Below.refl _ _⟩
    case round =>
      obtain ⟨i, hi, rfl, hall, hb⟩ := hrel
      by_cases hlt : i < S.length
      · obtain ⟨bl, off, nm, lv, rfl, hbl, hSi, hc0, hc1⟩ := (hSh.out.below hb).var hlt
        obtain ⟨bl2, off2, v, rfl, hbl2, hWi, hc2⟩ := (hWh.out.below hb).int (i := i) (by have := hl.out; omega)
        have l12 := schB_lv hsh.out hSi
        have hlt' : (i : Int) < (S.length : Int) := by omega
        have hlt2 : (i : Int) < (W.length : Int) := by have := hl.out; omega
        have hi0 : (0 : Int) ≤ (i : Int) := by omega
        by_cases h0 : v = 0
        · have hin : inB v 0 (2 ^ lv.toNat - 1) = true := by
            rw [inB_iff]
            have := flZ_bd l12
            unfold flZ at this
            omega
          have hin := Lib.hid hin
          have hz : (v != 0) = false := by rw [h0]; rfl
          replace h0 := Lib.hid h0
          replace hSi := Lib.hid hSi
          replace hWi := Lib.hid hWi
          go_wp2
          first | go_quiet (fail) | fail
          go_wp2
          go_roundw
          case rel =>
            refine ⟨i + 1, by omega, by go_num, fun j hj => ?_, (by repeat (first | exact Below.refl _ _ | assumption | refine Below.drew ?_ | refine below_drewN ?_ _ | refine Below.alloc' ?_ _ | (refine Below.setCell ?_ (by first | omega | (simp; done) | (simp; omega) | exact Below.size (by assumption) | exact Nat.le_trans (Below.size (by assumption)) (by simp)) _) | (refine Below.via' ?_ (by assumption)) | (refine Below.alloc ?_ (by first | omega | (simp; done) | (simp; omega) | exact Below.size (by assumption) | exact Nat.le_trans (Below.size (by assumption)) (by simp)) _) | (refine Below.via ?_ (by assumption) (by first | omega | (simp; done) | (simp; omega) | exact Below.size (by assumption) | exact Nat.le_trans (Below.size (by assumption)) (by simp)))))⟩
            rcases Nat.lt_or_ge j i with hj2 | hj2
            · exact hall.out j hj2
            · obtain rfl : j = i := by omega
              exact ⟨nm, lv, v, hSi.out, hWi.out, hin.out⟩
          case measure => simp [intOf]; omega
        have hz : (v != 0) = true := by simpa using h0
        have hkd := tw_kd (lv := lv) h0
        replace h0 := Lib.hid h0
        cases hin : inB v 0 (2 ^ lv.toNat - 1)
        · have hv := Lib.hid (tw_bad hSi hWi hin)
          rw [hin] at hkd
          have hkd : (kdZ lv v == 0) = true := hkd
          replace hSi := Lib.hid hSi
          replace hWi := Lib.hid hWi
          replace hin := Lib.hid hin
          go_wp2
          go_region_held3 (fun w' => Below ((wr.alloc (.cells #[.string nm, .int .i64 lv] 86))).heap.size ((wr.alloc (.cells #[.string nm, .int .i64 lv] 86))) w' ∧ (∀ b o, b < ((wr.alloc (.cells #[.string nm, .int .i64 lv] 86))).heap.size → w'.cell? ⟨b, o, none⟩ = ((wr.alloc (.cells #[.string nm, .int .i64 lv] 86))).cell? ⟨b, o, none⟩)) (first | exact keep_of (Below.refl _ _) | ((try go_split_ands); exact keep_of (by repeat (first | exact Below.refl _ _ | assumption | refine Below.drew ?_ | refine below_drewN ?_ _ | refine Below.alloc' ?_ _ | (refine Below.setCell ?_ (by first | omega | (simp; done) | (simp; omega) | exact Below.size (by assumption) | exact Nat.le_trans (Below.size (by assumption)) (by simp)) _) | (refine Below.via' ?_ (by assumption)) | (refine Below.alloc ?_ (by first | omega | (simp; done) | (simp; omega) | exact Below.size (by assumption) | exact Nat.le_trans (Below.size (by assumption)) (by simp)) _) | (refine Below.via ?_ (by assumption) (by first | omega | (simp; done) | (simp; omega) | exact Below.size (by assumption) | exact Nat.le_trans (Below.size (by assumption)) (by simp))))))) ((go_at_call 131; refine (kindOfSet_any _ _ _ _ l12).mono ?_; rintro e w1 ⟨rfl, hb1⟩)); rename_i hH; obtain ⟨hb1, hcl1⟩ := hH; have hz1 := hb1.size; (try simp at hz1); (try (have hly1 := Nat.lt_of_succ_le hz1)); (try (have hlx1 := Nat.lt_of_succ_lt hly1)); (try (have hlw1 := Nat.lt_of_succ_lt hlx1)); (try (have hle1 := Nat.le_of_lt hly1)); (try (have hya1 : w.heap.size < w1.heap.size := by omega)); (try (have hyb1 : w.heap.size + 1 < w1.heap.size := by omega)); (try (have hyc1 : w.heap.size + 1 + 1 < w1.heap.size := by omega)); (try (have hyd1 : wa.heap.size < w1.heap.size := by omega))
          go_wp2
          go_ret
          exact ⟨ret_bool hv.out.symm, (by repeat (first | exact Below.refl _ _ | assumption | refine Below.drew ?_ | refine below_drewN ?_ _ | refine Below.alloc' ?_ _ | (refine Below.setCell ?_ (by first | omega | (simp; done) | (simp; omega) | exact Below.size (by assumption) | exact Nat.le_trans (Below.size (by assumption)) (by simp)) _) | (refine Below.via' ?_ (by assumption)) | (refine Below.alloc ?_ (by first | omega | (simp; done) | (simp; omega) | exact Below.size (by assumption) | exact Nat.le_trans (Below.size (by assumption)) (by simp)) _) | (refine Below.via ?_ (by assumption) (by first | omega | (simp; done) | (simp; omega) | exact Below.size (by assumption) | exact Nat.le_trans (Below.size (by assumption)) (by simp)))))⟩
        · rw [hin] at hkd
          have hkd : (kdZ lv v == 0) = false := hkd
          replace hSi := Lib.hid hSi
          replace hWi := Lib.hid hWi
          replace hin := Lib.hid hin
          go_wp2
          go_region_held3 (fun w' => Below ((wr.alloc (.cells #[.string nm, .int .i64 lv] 86))).heap.size ((wr.alloc (.cells #[.string nm, .int .i64 lv] 86))) w' ∧ (∀ b o, b < ((wr.alloc (.cells #[.string nm, .int .i64 lv] 86))).heap.size → w'.cell? ⟨b, o, none⟩ = ((wr.alloc (.cells #[.string nm, .int .i64 lv] 86))).cell? ⟨b, o, none⟩)) (first | exact keep_of (Below.refl _ _) | ((try go_split_ands); exact keep_of (by repeat (first | exact Below.refl _ _ | assumption | refine Below.drew ?_ | refine below_drewN ?_ _ | refine Below.alloc' ?_ _ | (refine Below.setCell ?_ (by first | omega | (simp; done) | (simp; omega) | exact Below.size (by assumption) | exact Nat.le_trans (Below.size (by assumption)) (by simp)) _) | (refine Below.via' ?_ (by assumption)) | (refine Below.alloc ?_ (by first | omega | (simp; done) | (simp; omega) | exact Below.size (by assumption) | exact Nat.le_trans (Below.size (by assumption)) (by simp)) _) | (refine Below.via ?_ (by assumption) (by first | omega | (simp; done) | (simp; omega) | exact Below.size (by assumption) | exact Nat.le_trans (Below.size (by assumption)) (by simp))))))) ((go_at_call 131; refine (kindOfSet_any _ _ _ _ l12).mono ?_; rintro e w1 ⟨rfl, hb1⟩)); rename_i hH; obtain ⟨hb1, hcl1⟩ := hH; have hz1 := hb1.size; (try simp at hz1); (try (have hly1 := Nat.lt_of_succ_le hz1)); (try (have hlx1 := Nat.lt_of_succ_lt hly1)); (try (have hlw1 := Nat.lt_of_succ_lt hlx1)); (try (have hle1 := Nat.le_of_lt hly1)); (try (have hya1 : w.heap.size < w1.heap.size := by omega)); (try (have hyb1 : w.heap.size + 1 < w1.heap.size := by omega)); (try (have hyc1 : w.heap.size + 1 + 1 < w1.heap.size := by omega)); (try (have hyd1 : wa.heap.size < w1.heap.size := by omega))
          go_wp2
          go_roundw
          case rel =>
            refine ⟨i + 1, by omega, by go_num, fun j hj => ?_, (by repeat (first | exact Below.refl _ _ | assumption | refine Below.drew ?_ | refine below_drewN ?_ _ | refine Below.alloc' ?_ _ | (refine Below.setCell ?_ (by first | omega | (simp; done) | (simp; omega) | exact Below.size (by assumption) | exact Nat.le_trans (Below.size (by assumption)) (by simp)) _) | (refine Below.via' ?_ (by assumption)) | (refine Below.alloc ?_ (by first | omega | (simp; done) | (simp; omega) | exact Below.size (by assumption) | exact Nat.le_trans (Below.size (by assumption)) (by simp)) _) | (refine Below.via ?_ (by assumption) (by first | omega | (simp; done) | (simp; omega) | exact Below.size (by assumption) | exact Nat.le_trans (Below.size (by assumption)) (by simp)))))⟩
            rcases Nat.lt_or_ge j i with hj2 | hj2
            · exact hall.out j hj2
            · obtain rfl : j = i := by omega
              exact ⟨nm, lv, v, hSi.out, hWi.out, hin.out⟩
          case measure => simp [intOf]; omega
      · have hij : i = S.length := by omega
        subst hij
        have hv := Lib.hid (tw_all hl.out hall.out)
        clear hall
        go_wp2
        go_ret
        exact ⟨ret_bool hv.out.symm, (by repeat (first | exact Below.refl _ _ | assumption | refine Below.drew ?_ | refine below_drewN ?_ _ | refine Below.alloc' ?_ _ | (refine Below.setCell ?_ (by first | omega | (simp; done) | (simp; omega) | exact Below.size (by assumption) | exact Nat.le_trans (Below.size (by assumption)) (by simp)) _) | (refine Below.via' ?_ (by assumption)) | (refine Below.alloc ?_ (by first | omega | (simp; done) | (simp; omega) | exact Below.size (by assumption) | exact Nat.le_trans (Below.size (by assumption)) (by simp)) _) | (refine Below.via ?_ (by assumption) (by first | omega | (simp; done) | (simp; omega) | exact Below.size (by assumption) | exact Nat.le_trans (Below.size (by assumption)) (by simp)))))⟩
  · have hv := Lib.hid (tw_no hl)
    have hne : ((W.length : Int) == (S.length : Int)) = false := by rw [beq_eq_false_iff_ne]; omega
    go_enter Try.func106, Try.ntmps106
    go_wp2
    go_ret
    exact ⟨ret_bool hv.out.symm, (by repeat (first | exact Below.refl _ _ | assumption | refine Below.drew ?_ | refine below_drewN ?_ _ | refine Below.alloc' ?_ _ | (refine Below.setCell ?_ (by first | omega | (simp; done) | (simp; omega) | exact Below.size (by assumption) | exact Nat.le_trans (Below.size (by assumption)) (by simp)) _) | (refine Below.via' ?_ (by assumption)) | (refine Below.alloc ?_ (by first | omega | (simp; done) | (simp; omega) | exact Below.size (by assumption) | exact Nat.le_trans (Below.size (by assumption)) (by simp)) _) | (refine Below.via ?_ (by assumption) (by first | omega | (simp; done) | (simp; omega) | exact Below.size (by assumption) | exact Nat.le_trans (Below.size (by assumption)) (by simp)))))⟩

set_option maxHeartbeats 2000000 in
theorem uWhere_any (x y : Option Addr) (c1 c2 : Nat) (S : List (ByteArray × Int)) (W : List Int) (w : World) (hs : schB S = true) (hm : S.length ≤ 1048576) (hS : Rd w x (vC S)) (hW : IIn w y W) :
    Calls Try.prog 102 #[.slice x S.length c1, .slice y W.length c2] w fun e w' => e = .returned (.bool (twB S W)) ∧ Below w.heap.size w w' := by
  have hWl := hW.1
  have hWh := Lib.hid hW.2.2
  clear hW
  have hSh := Lib.hid hS
  clear hS
  have hsh := Lib.hid hs
  clear hs
  by_cases hl : W.length = S.length
  · have he1 : ((W.length : Int) == (S.length : Int)) = true := by rw [beq_iff_eq]; omega
    have he2 : ((W.length : Int) != (S.length : Int)) = false := by show (!((W.length : Int) == (S.length : Int))) = false; rw [he1]; rfl
    replace hl := Lib.hid hl
    go_enter Try.func102, Try.ntmps102
    go_wp2
    clear he1 he2
    go_loopw [14] (fun c wr => ∃ i : Nat, i ≤ S.length ∧ c = .int .i64 i ∧ Hid (∀ j, j < i → ∃ nm lv x, S[j]? = some (nm, lv) ∧ W[j]? = some x ∧ inB x 0 (2 ^ lv.toNat - 1) = true) ∧ Below w.heap.size w wr) (fun c _ => S.length - (intOf c).toNat)
    case atStart => exact ⟨0, by omega, rfl, (fun j hj => absurd hj (by omega)), Below.refl _ _⟩
    case round =>
      obtain ⟨i, hi, rfl, hall, hb⟩ := hrel
      by_cases hlt : i < S.length
      · obtain ⟨bl, off, nm, lv, rfl, hbl, hSi, hc0, hc1⟩ := (hSh.out.below hb).var hlt
        obtain ⟨bl2, off2, v, rfl, hbl2, hWi, hc2⟩ := (hWh.out.below hb).int (i := i) (by have := hl.out; omega)
        have l12 := schB_lv hsh.out hSi
        have hpw := tw_pow l12
        have l1 := l12.1
        have l2 := l12.2
        have hlt' : (i : Int) < (S.length : Int) := by omega
        have hlt2 : (i : Int) < (W.length : Int) := by have := hl.out; omega
        have hi0 : (0 : Int) ≤ (i : Int) := by omega
        have hcv : IntKind.u64.wrap lv = lv := by rw [show IntKind.u64.wrap lv = lv % 18446744073709551616 by simp [IntKind.wrap, IntKind.bits, IntKind.signed]]; omega
        cases hin : inB v 0 (2 ^ lv.toNat - 1)
        · have hv := Lib.hid (tw_bad hSi hWi hin)
          rw [← hpw] at hin
          replace hpw := Lib.hid hpw
          replace hSi := Lib.hid hSi
          replace hWi := Lib.hid hWi
          go_wp2
          go_quiet (first | (go_at_call 79; exact Calls.quiet_of_same ((l1In_any _ _ _ _).mono fun _ _ h => ⟨h.1, h.2.symm⟩)))
          go_wp2
          go_ret
          exact ⟨ret_bool hv.out.symm, (by repeat (first | exact Below.refl _ _ | assumption | refine Below.drew ?_ | refine below_drewN ?_ _ | refine Below.alloc' ?_ _ | (refine Below.setCell ?_ (by first | omega | (simp; done) | (simp; omega) | exact Below.size (by assumption) | exact Nat.le_trans (Below.size (by assumption)) (by simp)) _) | (refine Below.via' ?_ (by assumption)) | (refine Below.alloc ?_ (by first | omega | (simp; done) | (simp; omega) | exact Below.size (by assumption) | exact Nat.le_trans (Below.size (by assumption)) (by simp)) _) | (refine Below.via ?_ (by assumption) (by first | omega | (simp; done) | (simp; omega) | exact Below.size (by assumption) | exact Nat.le_trans (Below.size (by assumption)) (by simp)))))⟩
        · have hin2 := Lib.hid hin
          rw [← hpw] at hin
          replace hpw := Lib.hid hpw
          replace hSi := Lib.hid hSi
          replace hWi := Lib.hid hWi
          go_wp2
          go_quiet (first | (go_at_call 79; exact Calls.quiet_of_same ((l1In_any _ _ _ _).mono fun _ _ h => ⟨h.1, h.2.symm⟩)))
          go_wp2
          go_roundw
          case rel =>
            refine ⟨i + 1, by omega, by go_num, fun j hj => ?_, (by repeat (first | exact Below.refl _ _ | assumption | refine Below.drew ?_ | refine below_drewN ?_ _ | refine Below.alloc' ?_ _ | (refine Below.setCell ?_ (by first | omega | (simp; done) | (simp; omega) | exact Below.size (by assumption) | exact Nat.le_trans (Below.size (by assumption)) (by simp)) _) | (refine Below.via' ?_ (by assumption)) | (refine Below.alloc ?_ (by first | omega | (simp; done) | (simp; omega) | exact Below.size (by assumption) | exact Nat.le_trans (Below.size (by assumption)) (by simp)) _) | (refine Below.via ?_ (by assumption) (by first | omega | (simp; done) | (simp; omega) | exact Below.size (by assumption) | exact Nat.le_trans (Below.size (by assumption)) (by simp)))))⟩
            rcases Nat.lt_or_ge j i with hj2 | hj2
            · exact hall.out j hj2
            · obtain rfl : j = i := by omega
              exact ⟨nm, lv, v, hSi.out, hWi.out, hin2.out⟩
          case measure => simp [intOf]; omega
      · have hij : i = S.length := by omega
        subst hij
        have hv := Lib.hid (tw_all hl.out hall.out)
        clear hall
        go_wp2
        go_ret
        exact ⟨ret_bool hv.out.symm, (by repeat (first | exact Below.refl _ _ | assumption | refine Below.drew ?_ | refine below_drewN ?_ _ | refine Below.alloc' ?_ _ | (refine Below.setCell ?_ (by first | omega | (simp; done) | (simp; omega) | exact Below.size (by assumption) | exact Nat.le_trans (Below.size (by assumption)) (by simp)) _) | (refine Below.via' ?_ (by assumption)) | (refine Below.alloc ?_ (by first | omega | (simp; done) | (simp; omega) | exact Below.size (by assumption) | exact Nat.le_trans (Below.size (by assumption)) (by simp)) _) | (refine Below.via ?_ (by assumption) (by first | omega | (simp; done) | (simp; omega) | exact Below.size (by assumption) | exact Nat.le_trans (Below.size (by assumption)) (by simp)))))⟩
  · have hv := Lib.hid (tw_no hl)
    have hne : ((W.length : Int) == (S.length : Int)) = false := by rw [beq_eq_false_iff_ne]; omega
    go_enter Try.func102, Try.ntmps102
    go_wp2
    go_ret
    exact ⟨ret_bool hv.out.symm, (by repeat (first | exact Below.refl _ _ | assumption | refine Below.drew ?_ | refine below_drewN ?_ _ | refine Below.alloc' ?_ _ | (refine Below.setCell ?_ (by first | omega | (simp; done) | (simp; omega) | exact Below.size (by assumption) | exact Nat.le_trans (Below.size (by assumption)) (by simp)) _) | (refine Below.via' ?_ (by assumption)) | (refine Below.alloc ?_ (by first | omega | (simp; done) | (simp; omega) | exact Below.size (by assumption) | exact Nat.le_trans (Below.size (by assumption)) (by simp)) _) | (refine Below.via ?_ (by assumption) (by first | omega | (simp; done) | (simp; omega) | exact Below.size (by assumption) | exact Nat.le_trans (Below.size (by assumption)) (by simp)))))⟩
end Go.Proofs.Ytgkaalonmkcclaa
