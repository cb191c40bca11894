/-
  Chapter 8: AddCells: the mathematics; the model's walk; the program's test of a list; the library's walk through a list's places.
-/
import Derived.Test.YtnmpigedhpdenabGrpW
import Derived.Test.YtnmpigedhpdenabEdV
import Derived.Test.YtnmpigedhpdenabAtJ
namespace Go.Proofs.Ytnmpigedhpdenab
open Go.RowKit Go.Shelf
set_option maxRecDepth 100000
attribute [local go_sem] Oper.semAt_some

/-- The first i numbers of a list, added to another. -/
def acK (Z L : List Int) : Nat → List Int
  | 0 => Z
  | i + 1 => (acK Z L i).set i (Z.getD i 0 + L.getD i 0)
theorem acK_len (Z L : List Int) : ∀ i, (acK Z L i).length = Z.length
  | 0 => rfl
  | i + 1 => by unfold acK; rw [List.length_set, acK_len]
theorem acK_late (Z L : List Int) : ∀ i j, i ≤ j → (acK Z L i)[j]? = Z[j]?
  | 0, _, _ => rfl
  | i + 1, j, h => by
    unfold acK
    rw [List.getElem?_set, if_neg (by omega)]
    exact acK_late Z L i j (by omega)
theorem acK_early (Z L : List Int) : ∀ i j, j < i → j < Z.length → (acK Z L i)[j]? = some (Z.getD j 0 + L.getD j 0)
  | 0, _, h, _ => by omega
  | i + 1, j, h, hl => by
    unfold acK
    rw [List.getElem?_set]
    by_cases e : i = j
    · subst e
      rw [if_pos rfl, if_pos (by rw [acK_len]; exact hl)]
    · rw [if_neg e]
      exact acK_early Z L i j (by omega) hl
theorem acK_step {Z L : List Int} {i : Nat} {a b : Int} (h : Z[i]? = some a) (k : L[i]? = some b) : acK Z L (i + 1) = (acK Z L i).set i (a + b) := by
  show (acK Z L i).set i _ = _
  rw [List.getD_eq_getElem?_getD, List.getD_eq_getElem?_getD, h, k]
  rfl
/-- Added to zeros, a list is itself. -/
theorem acK_zero (L : List Int) : acK (List.replicate L.length 0) L L.length = L := by
  apply List.ext_getElem?
  intro j
  rcases Nat.lt_or_ge j L.length with h | h
  · rw [acK_early _ _ _ _ h (by simpa using h), List.getElem?_eq_getElem h, List.getD_eq_getElem?_getD, List.getD_eq_getElem?_getD, List.getElem?_replicate, if_pos h, List.getElem?_eq_getElem h]
    simp
  · rw [List.getElem?_eq_none (by rw [acK_len]; simpa using h), List.getElem?_eq_none h]
def cvB (L : List Int) : Bool := decide (L.length ≤ 600) && inR L (-1000000) 1000000
def acB (A B : List Int) : Bool := decide (A.length = B.length) && (cvB A && cvB B)
def acL (A B : List Int) : List Int := eIf (acB A B) (acK A B A.length)
theorem ac_no {A B : List Int} (h : acB A B = false) : acL A B = [] := eIf_f h
theorem ac_no1 {A B : List Int} (h : A.length ≠ B.length) : acB A B = false := by unfold acB; rw [decide_eq_false h]; rfl
theorem ac_no2 {A B : List Int} (h : cvB A = false) : acB A B = false := by unfold acB; rw [h, Bool.false_and, Bool.and_false]
theorem ac_no3 {A B : List Int} (h : cvB B = false) : acB A B = false := by unfold acB; rw [h, Bool.and_false, Bool.and_false]
theorem ac_yes {A B : List Int} (h : A.length = B.length) (k : cvB A = true) (q : cvB B = true) : acB A B = true ∧ acL A B = acK A B A.length := by
  have e : acB A B = true := by unfold acB; rw [decide_eq_true h, k, q]; rfl
  exact ⟨e, eIf_t e⟩
theorem ac_len {A B : List Int} : (acL A B).length ≤ A.length := by
  unfold acL
  cases h : acB A B
  · rw [eIf_f rfl]; simp
  · rw [eIf_t rfl, acK_len]; exact Nat.le_refl _
theorem cv_at {L : List Int} (h : cvB L = true) {i : Nat} {a : Int} (k : L[i]? = some a) : -1000000 ≤ a ∧ a ≤ 1000000 := by
  unfold cvB inR at h
  rw [Bool.and_eq_true, List.all_eq_true] at h
  exact (inB_iff _ _ _).1 (h.2 a (List.mem_of_getElem? k))
theorem cv_len {L : List Int} (h : cvB L = true) : L.length ≤ 600 := by
  unfold cvB at h
  rw [Bool.and_eq_true, decide_eq_true_eq] at h
  exact h.1

set_option maxHeartbeats 2000000 in
theorem areWithinT_any (x : Option Addr) (c : Nat) (L : List Int) (m : Int) (w : World) (h0 : 0 ≤ m) (h1 : m ≤ 1000000) (hL : IIn w x L) :
    Calls Try.prog 160 #[.slice x L.length c, .int .i64 m] w fun e w' => e = .returned (.bool (inR L (-m) m)) ∧ w = w' := by
  have hLh := Lib.hid hL
  have hLl := hL.1
  clear hL
  go_enter Try.func160, Try.ntmps160
  go_wp2
  go_loopw [9] (fun c wr => ∃ i : Nat, i ≤ L.length ∧ c = .int .i64 i ∧ Hid (∀ j, j < i → ∃ v, L[j]? = some v ∧ inB v (-m) m = true) ∧ w = wr) (fun c _ => L.length - (intOf c).toNat)
  case atStart => exact ⟨0, by omega, rfl, (fun j hj => absurd hj (by omega)), rfl⟩
  case round =>
    obtain ⟨i, hi, rfl, hall, rfl⟩ := hrel
    by_cases hlt : i < L.length
    · obtain ⟨bl, off, v, rfl, hbl, hLi, hc0⟩ := hLh.out.2.2.int hlt
      have hlt' : (i : Int) < (L.length : Int) := by omega
      cases hin : inB v (-m) m
      · have hno := (inB_no _ _ _).1 hin
        have hv := Lib.hid (inR_bad hLi hin)
        replace hLi := Lib.hid hLi
        by_cases hlo : v < -m
        · go_wp2
          go_ret
          exact ⟨ret_bool hv.out.symm, rfl⟩
        · have hhi : m < v := by omega
          go_wp2
          go_ret
          exact ⟨ret_bool hv.out.symm, rfl⟩
      · have hok := (inB_iff _ _ _).1 hin
        have hlo : ¬ v < -m := by omega
        have hhi : ¬ m < v := by omega
        replace hLi := Lib.hid hLi
        replace hin := Lib.hid hin
        clear hok
        go_wp2
        go_roundw
        case rel =>
          refine ⟨i + 1, by omega, by go_num, fun j hj => ?_, by first | rfl | trivial⟩
          rcases Nat.lt_or_ge j i with hj2 | hj2
          · exact hall.out j hj2
          · obtain rfl : j = i := by omega
            exact ⟨v, hLi.out, hin.out⟩
        case measure => simp [intOf]; omega
    · have hij : i = L.length := by omega
      subst hij
      have hv := Lib.hid (inR_all hall.out)
      clear hall
      go_wp2
      go_ret
      exact ⟨ret_bool hv.out.symm, rfl⟩

set_option maxHeartbeats 2000000 in
theorem areCellValues_any (x : Option Addr) (c : Nat) (L : List Int) (w : World) (hL : IIn w x L) :
    Calls Try.prog 131 #[.slice x L.length c] w fun e w' => e = .returned (.bool (cvB L)) ∧ w = w' := by
  have hLh := Lib.hid hL
  clear hL
  by_cases h6 : (600 : Int) < L.length
  · have h7 : ¬ (L.length : Int) ≤ 600 := by omega
    have hv := Lib.hid (show cvB L = false by unfold cvB; rw [decide_eq_false (by omega)]; rfl)
    go_enter Try.func131, Try.ntmps131
    go_wp2
    go_ret
    exact ⟨ret_bool hv.out.symm, rfl⟩
  have h7 : (L.length : Int) ≤ 600 := by omega
  have hv := Lib.hid (show cvB L = inR L (-1000000) 1000000 by unfold cvB; rw [decide_eq_true (by omega), Bool.true_and])
  go_enter Try.func131, Try.ntmps131
  go_wp2_with fail
  refine (areWithinT_any _ _ L 1000000 _ (by omega) (by omega) hLh.out).mono ?_
  rintro e w1 ⟨rfl, rfl⟩
  go_wp2
  go_ret
  exact ⟨ret_bool hv.out.symm, rfl⟩

theorem iC_setT (L : List Int) (k : Nat) (v : Int) : (iC L).set k (.int .i64 v) = iC (L.set k v) := by unfold iC; rw [List.map_set]
set_option maxHeartbeats 4000000 in
theorem sAC_x (x y : Option Addr) (c1 c2 : Nat) (A B : List Int) (w : World) (hA : IIn w x A) (hB : IIn w y B) (hc : A.length ≤ c1) (hnil : x = none → c1 = 0) :
    Calls Try.prog 57 #[.slice x A.length c1, .slice y B.length c2] w (RetLB (acL A B) (acB A B) w) := by
  have hAh := Lib.hid hA
  have hBh := Lib.hid hB
  have hAl := hA.1
  have hBl := hB.1
  clear hA hB
  by_cases hl : A.length = B.length
  · have e1 : ((A.length : Int) == (B.length : Int)) = true := by rw [beq_iff_eq]; omega
    have e2 : ((A.length : Int) != (B.length : Int)) = false := by show (!((A.length : Int) == (B.length : Int))) = false; rw [e1]; rfl
    have hlh := Lib.hid hl
    clear hl
    by_cases h6 : (600 : Int) < A.length
    · have hv := Lib.hid (ac_no2 (A := A) (B := B) (by unfold cvB; rw [decide_eq_false (by omega)]; rfl))
      go_enter Try.func57, Try.ntmps57
      go_wp2
      go_ret2
      rw [hv.out, ac_no hv.out]
      exact ⟨_, rfl, World.ownsRow_nil _ _ _ _, Below.refl _ _⟩
    have h6n : A.length ≤ 600 := by omega
    cases hra : inR A (-1000000) 1000000
    · have hv := Lib.hid (ac_no2 (A := A) (B := B) (by unfold cvB; rw [hra, Bool.and_false]))
      go_enter Try.func57, Try.ntmps57
      go_wp2_with fail
      refine (l1All_any _ _ A _ _ _ hAl hAh.out.2.2).mono ?_
      rintro e w1 ⟨rfl, rfl⟩
      rw [hra]
      go_wp2
      go_ret2
      rw [hv.out, ac_no hv.out]
      exact ⟨_, rfl, World.ownsRow_nil _ _ _ _, Below.refl _ _⟩
    cases hrb : inR B (-1000000) 1000000
    · have hv := Lib.hid (ac_no3 (A := A) (B := B) (by unfold cvB; rw [hrb, Bool.and_false]))
      go_enter Try.func57, Try.ntmps57
      go_wp2_with fail
      refine (l1All_any _ _ A _ _ _ hAl hAh.out.2.2).mono ?_
      rintro e w1 ⟨rfl, rfl⟩
      rw [hra]
      go_wp2_with fail
      refine (l1All_any _ _ B _ _ _ hBl hBh.out.2.2).mono ?_
      rintro e w2 ⟨rfl, rfl⟩
      rw [hrb]
      go_wp2
      go_ret2
      rw [hv.out, ac_no hv.out]
      exact ⟨_, rfl, World.ownsRow_nil _ _ _ _, Below.refl _ _⟩
    have hca : cvB A = true := by unfold cvB; rw [hra, decide_eq_true h6n]; rfl
    have hcb : cvB B = true := by unfold cvB; rw [hrb, decide_eq_true (by have := hlh.out; omega)]; rfl
    have hv := Lib.hid (ac_yes hlh.out hca hcb)
    replace hca := Lib.hid hca
    replace hcb := Lib.hid hcb
    go_enter Try.func57, Try.ntmps57
    go_wp2_with fail
    refine (l1All_any _ _ A _ _ _ hAl hAh.out.2.2).mono ?_
    rintro e w1 ⟨rfl, rfl⟩
    rw [hra]
    go_wp2_with fail
    refine (l1All_any _ _ B _ _ _ hBl hBh.out.2.2).mono ?_
    rintro e w2 ⟨rfl, rfl⟩
    rw [hrb]
    replace hra := Lib.hid hra
    replace hrb := Lib.hid hrb
    go_wp2_with fail
    refine (l1Own_any _ _ A _ hAl hc hnil hAh.out.2.2).mono ?_
    rintro e w3 ⟨v3, rfl, ho3, hb3⟩
    clear e1 e2
    have hb3h := Lib.hid hb3
    clear hb3
    go_wp2
    go_loopw [33] (fun q wr => ∃ j : Nat, j ≤ B.length ∧ q = .int .i64 j ∧ wr.ownsRow w.heap.size 3 1 v3 A.length (iC (acK A B j)) ∧ Below w.heap.size w wr) (fun q _ => B.length - (intOf q).toNat)
    case atStart => exact ⟨0, by omega, by go_num, ho3, hb3h.out⟩
    case round =>
      clear ho3
      obtain ⟨j, hj, rfl, hown, hb⟩ := hrel
      by_cases hlt : j < B.length
      · obtain ⟨g3, c3, rfl⟩ := own_some hown (by have := hlh.out; omega)
        obtain ⟨bl, off, b, hy, hbl, hBj, hc0⟩ := (hBh.out.below hb).2.2.int hlt
        subst hy
        have hjA : j < A.length := by have := hlh.out; omega
        have hAj : A[j]? = some A[j] := List.getElem?_eq_getElem hjA
        obtain ⟨u, hu, k0⟩ := own_cell hown (j := j) (by omega)
        obtain rfl : u = .int .i64 A[j] := Option.some.inj (hu.symm.trans (iC_at ((acK_late A B j j (Nat.le_refl _)).trans hAj)))
        have k2 := hown.frozenAt j
        have k4 := (own_lt hown).2
        have k5 := (own_lt hown).1
        have b1 := cv_at hca.out hAj
        have b2 := cv_at hcb.out hBj
        generalize A[j] = a at *
        have hst := Lib.hid (acK_step hAj hBj)
        have q1 : IntKind.i64.wrap (a + b) = a + b := IntWalk.i64_in _ (by omega)
        have hlt' : (j : Int) < (B.length : Int) := by omega
        have hlt2 : (j : Int) < (A.length : Int) := by omega
        replace hu := Lib.hid hu
        replace hAj := Lib.hid hAj
        replace hBj := Lib.hid hBj
        go_wp2
        go_roundw
        case rel =>
          refine ⟨j + 1, by omega, by go_num, ?_, Below.setCell hb k5 _⟩
          rw [hst.out, ← iC_setT]
          exact (hown.stored j _).1
        case measure => simp [intOf]; omega
      · have hij : j = A.length := by have := hlh.out; omega
        subst hij
        have hown := Lib.hid hown
        go_wp2
        go_ret2
        rw [hv.out.1, hv.out.2]
        exact ⟨_, rfl, by rw [acK_len]; exact hown.out, hb⟩
  · have hv := Lib.hid (ac_no1 (A := A) (B := B) hl)
    have e1 : ((A.length : Int) == (B.length : Int)) = false := by rw [beq_eq_false_iff_ne]; omega
    go_enter Try.func57, Try.ntmps57
    go_wp2
    go_ret2
    rw [hv.out, ac_no hv.out]
    exact ⟨_, rfl, World.ownsRow_nil _ _ _ _, Below.refl _ _⟩
end Go.Proofs.Ytnmpigedhpdenab
