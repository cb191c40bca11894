import Derived.Test.YtpmbenedeakieaaPoH
import Derived.Test.YtpmbenedeakieaaEdV
import Derived.Test.YtpmbenedeakieaaAtJ
import Derived.Test.YtpmbenedeakieaaPqA
import Derived.Test.YtpmbenedeakieaaPoQ
namespace Go.Proofs.Ytpmbenedeakieaa
open Go.RowKit Go.Shelf
set_option maxRecDepth 100000
attribute [local go_sem] Oper.semAt_some

/-- The first i numbers of a list, added to another. -/
def acK (Z L : List Int) : Nat → List Int
  | 0 => Z
  | i + 1 => (acK Z L i).set i (Z.getD i 0 + L.getD i 0)
theorem acK_len (Z L : List Int) : ∀ i, (acK Z L i).length = Z.length
  | 0 => rfl
  | i + 1 => by unfold acK; rw [List.length_set, acK_len]
theorem acK_late (Z L : List Int) : ∀ i j, i ≤ j → (acK Z L i)[j]? = Z[j]?
  | 0, _, _ => rfl
  | i + 1, j, h => by
    unfold acK
    rw [List.getElem?_set, if_neg (by omega)]
    exact acK_late Z L i j (by omega)
theorem acK_early (Z L : List Int) : ∀ i j, j < i → j < Z.length → (acK Z L i)[j]? = some (Z.getD j 0 + L.getD j 0)
  | 0, _, h, _ => by omega
  | i + 1, j, h, hl => by
    unfold acK
    rw [List.getElem?_set]
    by_cases e : i = j
    · subst e
      rw [if_pos rfl, if_pos (by rw [acK_len]; exact hl)]
    · rw [if_neg e]
      exact acK_early Z L i j (by omega) hl
theorem acK_step {Z L : List Int} {i : Nat} {a b : Int} (h : Z[i]? = some a) (k : L[i]? = some b) : acK Z L (i + 1) = (acK Z L i).set i (a + b) := by
  show (acK Z L i).set i _ = _
  rw [List.getD_eq_getElem?_getD, List.getD_eq_getElem?_getD, h, k]
  rfl
/-- Added to zeros, a list is itself. -/
theorem acK_zero (L : List Int) : acK (List.replicate L.length 0) L L.length = L := by
  apply List.ext_getElem?
  intro j
  rcases Nat.lt_or_ge j L.length with h | h
  · rw [acK_early _ _ _ _ h (by simpa using h), List.getElem?_eq_getElem h, List.getD_eq_getElem?_getD, List.getD_eq_getElem?_getD, List.getElem?_replicate, if_pos h, List.getElem?_eq_getElem h]
    simp
  · rw [List.getElem?_eq_none (by rw [acK_len]; simpa using h), List.getElem?_eq_none h]
def cvB (L : List Int) : Bool := decide (L.length ≤ 600) && inR L (-1000000) 1000000
def acB (A B : List Int) : Bool := decide (A.length = B.length) && (cvB A && cvB B)
def acL (A B : List Int) : List Int := eIf (acB A B) (acK A B A.length)
theorem ac_no {A B : List Int} (h : acB A B = false) : acL A B = [] := eIf_f h
theorem ac_no1 {A B : List Int} (h : A.length ≠ B.length) : acB A B = false := by unfold acB; rw [decide_eq_false h]; rfl
theorem ac_no2 {A B : List Int} (h : cvB A = false) : acB A B = false := by unfold acB; rw [h, Bool.false_and, Bool.and_false]
theorem ac_no3 {A B : List Int} (h : cvB B = false) : acB A B = false := by unfold acB; rw [h, Bool.and_false, Bool.and_false]
theorem ac_yes {A B : List Int} (h : A.length = B.length) (k : cvB A = true) (q : cvB B = true) : acB A B = true ∧ acL A B = acK A B A.length := by
  have e : acB A B = true := by unfold acB; rw [decide_eq_true h, k, q]; rfl
  exact ⟨e, eIf_t e⟩
theorem ac_len {A B : List Int} : (acL A B).length ≤ A.length := by
  unfold acL
  cases h : acB A B
  · rw [eIf_f rfl]; simp
  · rw [eIf_t rfl, acK_len]; exact Nat.le_refl _
theorem cv_at {L : List Int} (h : cvB L = true) {i : Nat} {a : Int} (k : L[i]? = some a) : -1000000 ≤ a ∧ a ≤ 1000000 := by
  unfold cvB inR at h
  rw [Bool.and_eq_true, List.all_eq_true] at h
  exact (inB_iff _ _ _).1 (h.2 a (List.mem_of_getElem? k))
theorem cv_len {L : List Int} (h : cvB L = true) : L.length ≤ 600 := by
  unfold cvB at h
  rw [Bool.and_eq_true, decide_eq_true_eq] at h
  exact h.1

set_option maxHeartbeats 2000000 in
theorem areCellValues_any (x : Option Addr) (c : Nat) (L : List Int) (w : World) (hL : IIn w x L) :
    Calls Try.prog 106 #[.slice x L.length c] w fun e w' => e = .returned (.bool (cvB L)) ∧ w = w' := by
  have hLh := Lib.hid hL
  have hLl := hL.1
  clear hL
  by_cases h6 : (600 : Int) < L.length
  · have hv := Lib.hid (show cvB L = false by unfold cvB; rw [decide_eq_false (by omega)]; rfl)
    go_enter Try.func106, Try.ntmps106
    go_wp2
    go_ret
    exact ⟨ret_bool hv.out.symm, rfl⟩
  go_enter Try.func106, Try.ntmps106
  go_wp2
  go_loopw [10] (fun c wr => ∃ i : Nat, i ≤ L.length ∧ c = .int .i64 i ∧ Hid (∀ j a, j < i → L[j]? = some a → inB a (-1000000) 1000000 = true) ∧ w = wr) (fun c _ => L.length - (intOf c).toNat)
  case atStart => exact ⟨0, by omega, rfl, (fun j a hj => absurd hj (by omega)), rfl⟩
  case round =>
    obtain ⟨i, hi, rfl, hall, rfl⟩ := hrel
    by_cases hlt : i < L.length
    · obtain ⟨bl, off, v, rfl, hbl, hLi, hc0⟩ := hLh.out.2.2.int hlt
      have hlt' : (i : Int) < (L.length : Int) := by omega
      cases hin : inB v (-1000000) 1000000
      · have hno := (inB_no _ _ _).1 hin
        have hv := Lib.hid (show cvB L = false by unfold cvB; rw [show inR L (-1000000) 1000000 = false from List.all_eq_false.2 ⟨v, List.mem_of_getElem? hLi, by rw [hin]; decide⟩, Bool.and_false])
        replace hLi := Lib.hid hLi
        by_cases hlo : v < -1000000
        · go_wp2
          go_ret
          exact ⟨ret_bool hv.out.symm, rfl⟩
        · have hhi : 1000000 < v := by omega
          go_wp2
          go_ret
          exact ⟨ret_bool hv.out.symm, rfl⟩
      · have hok := (inB_iff _ _ _).1 hin
        have hlo : ¬ v < -1000000 := by omega
        have hhi : ¬ 1000000 < v := by omega
        replace hLi := Lib.hid hLi
        replace hin := Lib.hid hin
        clear hok
        go_wp2
        go_roundw
        case rel =>
          refine ⟨i + 1, by omega, by go_num, fun j a hj ha => ?_, by first | rfl | trivial⟩
          rcases Nat.lt_or_ge j i with hj2 | hj2
          · exact hall.out j a hj2 ha
          · obtain rfl : j = i := by omega
            obtain rfl := Option.some.inj (ha.symm.trans hLi.out)
            exact hin.out
        case measure => simp [intOf]; omega
    · have hij : i = L.length := by omega
      subst hij
      have hv := Lib.hid (show cvB L = true by
        unfold cvB inR
        rw [decide_eq_true (by omega), Bool.true_and, List.all_eq_true]
        intro a ha
        obtain ⟨j, hj, e⟩ := List.getElem_of_mem ha
        exact hall.out j a hj (by rw [List.getElem?_eq_getElem hj, e]))
      clear hall
      go_wp2
      go_ret
      exact ⟨ret_bool hv.out.symm, rfl⟩

theorem iC_setT (L : List Int) (k : Nat) (v : Int) : (iC L).set k (.int .i64 v) = iC (L.set k v) := by unfold iC; rw [List.map_set]
set_option maxHeartbeats 4000000 in
theorem sAC_x (x y : Option Addr) (c1 c2 : Nat) (A B : List Int) (w : World) (hA : IIn w x A) (hB : IIn w y B) (hc : A.length ≤ c1) (hnil : x = none → c1 = 0) :
    Calls Try.prog 55 #[.slice x A.length c1, .slice y B.length c2] w (RetLB (acL A B) (acB A B) w) := by
  have hAh := Lib.hid hA
  have hBh := Lib.hid hB
  have hAl := hA.1
  have hBl := hB.1
  clear hA hB
  by_cases hl : A.length = B.length
  · have e1 : ((A.length : Int) == (B.length : Int)) = true := by rw [beq_iff_eq]; omega
    have e2 : ((A.length : Int) != (B.length : Int)) = false := by show (!((A.length : Int) == (B.length : Int))) = false; rw [e1]; rfl
    have hlh := Lib.hid hl
    clear hl
    by_cases h6 : (600 : Int) < A.length
    · have hv := Lib.hid (ac_no2 (A := A) (B := B) (by unfold cvB; rw [decide_eq_false (by omega)]; rfl))
      go_enter Try.func55, Try.ntmps55
      go_wp2
      go_ret2
      rw [hv.out, ac_no hv.out]
      exact ⟨_, rfl, World.ownsRow_nil _ _ _ _, Below.refl _ _⟩
    have h6n : A.length ≤ 600 := by omega
    cases hra : inR A (-1000000) 1000000
    · have hv := Lib.hid (ac_no2 (A := A) (B := B) (by unfold cvB; rw [hra, Bool.and_false]))
      go_enter Try.func55, Try.ntmps55
      go_wp2_with fail
      refine (l1All_any _ _ A _ _ _ hAl hAh.out.2.2).mono ?_
      rintro e w1 ⟨rfl, rfl⟩
      rw [hra]
      go_wp2
      go_ret2
      rw [hv.out, ac_no hv.out]
      exact ⟨_, rfl, World.ownsRow_nil _ _ _ _, Below.refl _ _⟩
    cases hrb : inR B (-1000000) 1000000
    · have hv := Lib.hid (ac_no3 (A := A) (B := B) (by unfold cvB; rw [hrb, Bool.and_false]))
      go_enter Try.func55, Try.ntmps55
      go_wp2_with fail
      refine (l1All_any _ _ A _ _ _ hAl hAh.out.2.2).mono ?_
      rintro e w1 ⟨rfl, rfl⟩
      rw [hra]
      go_wp2_with fail
      refine (l1All_any _ _ B _ _ _ hBl hBh.out.2.2).mono ?_
      rintro e w2 ⟨rfl, rfl⟩
      rw [hrb]
      go_wp2
      go_ret2
      rw [hv.out, ac_no hv.out]
      exact ⟨_, rfl, World.ownsRow_nil _ _ _ _, Below.refl _ _⟩
    have hca : cvB A = true := by unfold cvB; rw [hra, decide_eq_true h6n]; rfl
    have hcb : cvB B = true := by unfold cvB; rw [hrb, decide_eq_true (by have := hlh.out; omega)]; rfl
    have hv := Lib.hid (ac_yes hlh.out hca hcb)
    replace hca := Lib.hid hca
    replace hcb := Lib.hid hcb
    go_enter Try.func55, Try.ntmps55
    go_wp2_with fail
    refine (l1All_any _ _ A _ _ _ hAl hAh.out.2.2).mono ?_
    rintro e w1 ⟨rfl, rfl⟩
    rw [hra]
    go_wp2_with fail
    refine (l1All_any _ _ B _ _ _ hBl hBh.out.2.2).mono ?_
    rintro e w2 ⟨rfl, rfl⟩
    rw [hrb]
    replace hra := Lib.hid hra
    replace hrb := Lib.hid hrb
    go_wp2_with fail
    refine (l1Own_any _ _ A _ hAl hc hnil hAh.out.2.2).mono ?_
    rintro e w3 ⟨v3, rfl, ho3, hb3⟩
    clear e1 e2
    have hb3h := Lib.hid hb3
    clear hb3
    go_wp2
    go_loopw [33] (fun q wr => ∃ j : Nat, j ≤ B.length ∧ q = .int .i64 j ∧ wr.ownsRow w.heap.size 3 1 v3 A.length (iC (acK A B j)) ∧ Below w.heap.size w wr) (fun q _ => B.length - (intOf q).toNat)
    case atStart => exact ⟨0, by omega, by go_num, ho3, hb3h.out⟩
    case round =>
      clear ho3
      obtain ⟨j, hj, rfl, hown, hb⟩ := hrel
      by_cases hlt : j < B.length
      · obtain ⟨g3, c3, rfl⟩ := own_some hown (by have := hlh.out; omega)
        obtain ⟨bl, off, b, hy, hbl, hBj, hc0⟩ := (hBh.out.below hb).2.2.int hlt
        subst hy
        have hjA : j < A.length := by have := hlh.out; omega
        have hAj : A[j]? = some A[j] := List.getElem?_eq_getElem hjA
        obtain ⟨u, hu, k0⟩ := own_cell hown (j := j) (by omega)
        obtain rfl : u = .int .i64 A[j] := Option.some.inj (hu.symm.trans (iC_at ((acK_late A B j j (Nat.le_refl _)).trans hAj)))
        have k2 := hown.frozenAt j
        have k4 := (own_lt hown).2
        have k5 := (own_lt hown).1
        have b1 := cv_at hca.out hAj
        have b2 := cv_at hcb.out hBj
        generalize A[j] = a at *
        have hst := Lib.hid (acK_step hAj hBj)
        have q1 : IntKind.i64.wrap (a + b) = a + b := IntWalk.i64_in _ (by omega)
        have hlt' : (j : Int) < (B.length : Int) := by omega
        have hlt2 : (j : Int) < (A.length : Int) := by omega
        replace hu := Lib.hid hu
        replace hAj := Lib.hid hAj
        replace hBj := Lib.hid hBj
        go_wp2
        go_roundw
        case rel =>
          refine ⟨j + 1, by omega, by go_num, ?_, Below.setCell hb k5 _⟩
          rw [hst.out, ← iC_setT]
          exact (hown.stored j _).1
        case measure => simp [intOf]; omega
      · have hij : j = A.length := by have := hlh.out; omega
        subst hij
        have hown := Lib.hid hown
        go_wp2
        go_ret2
        rw [hv.out.1, hv.out.2]
        exact ⟨_, rfl, by rw [acK_len]; exact hown.out, hb⟩
  · have hv := Lib.hid (ac_no1 (A := A) (B := B) hl)
    have e1 : ((A.length : Int) == (B.length : Int)) = false := by rw [beq_eq_false_iff_ne]; omega
    go_enter Try.func55, Try.ntmps55
    go_wp2
    go_ret2
    rw [hv.out, ac_no hv.out]
    exact ⟨_, rfl, World.ownsRow_nil _ _ _ _, Below.refl _ _⟩
end Go.Proofs.Ytpmbenedeakieaa

namespace Go.Proofs.Ytpmbenedeakieaa
open Go.RowKit Go.Shelf
set_option maxRecDepth 100000
attribute [local go_sem] Oper.semAt_some

/-- The places of a list. -/
abbrev AlI (L : List Int) := { j : Nat // j < L.length }
def alM {L : List Int} (pre : List (AlI L)) : List Nat := pre.map (·.1)
def alV (L : List Int) (j : Nat) : Int := L.getD j 0
theorem alV_at {L : List Int} {j : Nat} {v : Int} (h : L[j]? = some v) : alV L j = v := by unfold alV; rw [List.getD_eq_getElem?_getD, h]; rfl
set_option maxHeartbeats 2000000 in
/-- The library's walk: for every loop body that keeps what lay below n₀, and the slice's box. -/
theorem al1_in (F : Fence) (n : Nat) (hF : F.fn 153) (hro : F.round = none) (hn : 1 ≤ n) (l Bs n₀ cap : Nat) (y : Option Addr) (L : List Int) (hl6 : L.length ≤ 1048576) (J Jx : List (AlI L) → World → Prop)
    (hY : ∀ pre x W, J pre W → pre.length < L.length → YieldAt F (n - 1) Try.prog l #[.int .i64 (x.1 : Int), .int .i64 (alV L x.1)] W fun e W' =>
      (e = .returned (.bool true) ∧ J (pre ++ [x]) W' ∧ KpB n₀ Bs W W') ∨ (e = .returned (.bool false) ∧ Jx (pre ++ [x]) W'))
    (W : World) (hBs : Boxed W Bs 22 (.slice y L.length cap))
    (hc : ∀ j, j < L.length → ∃ b off, y = some ⟨b, off, none⟩ ∧ b < n₀ ∧ W.cell? ⟨b, off + j, none⟩ = some (.int .i64 (alV L j))) (h0 : J [] W) :
    CallsIn F n Try.prog 153 #[.func (.yield l) #[] #[], .pointer (some ⟨Bs, 0, none⟩)] W fun e W' => (∃ v, e = .returned v) ∧
      ((∃ ys : List (AlI L), alM ys = List.range L.length ∧ J ys W') ∨ (∃ pre : List (AlI L), True ∧ Jx pre W')) := by
  have hcB := hBs.cell
  refine callsIn_of_wp Try.func153 rfl hF ?_ hro
  simp only [Try.ntmps153, List.size_toArray, List.length_cons, List.length_nil, Nat.reduceAdd, Nat.reduceSub, Array.replicate_succ, Array.replicate_zero, List.push_toArray, List.append_toArray, List.nil_append, List.cons_append]
  gi_wp2
  clear hcB
  gi_loopw [7] (fun i wr => ∃ (m : Nat) (pre : List (AlI L)), m ≤ L.length ∧ i = .int .i64 (m : Int) ∧ Hid (pre.map (·.1) = List.range m) ∧ J pre wr ∧ Below n₀ W wr ∧ wr.heap[Bs]? = W.heap[Bs]?)
    (fun i _ => L.length - (intOf i).toNat)
  case atStart => exact ⟨0, [], by omega, by go_num, rfl, h0, Below.refl _ _, rfl⟩
  case round =>
    obtain ⟨m, pre, hm, rfl, hpre, hJs, hnx, hbox⟩ := hrel
    by_cases hlt : m < L.length
    · have hlen : pre.length < L.length := by
        have := congrArg List.length hpre.out
        rw [List.length_map, List.length_range] at this
        omega
      obtain ⟨fn, tmps, assign, body, hy, hR⟩ := hY pre ⟨m, hlt⟩ wr hJs hlen
      dsimp only at hy
      obtain ⟨b, off, rfl, hb, c0⟩ := hc m hlt
      have hc0 := (hnx.cell (p := ⟨b, off + m, none⟩) hb).trans c0
      have hlt' : (m : Int) < (L.length : Int) := by omega
      replace hbox := Lib.hid hbox
      gi_wp2
      refine hR.mono ?_
      rintro e W3 (⟨rfl, hJ3, hk3⟩ | ⟨rfl, hJx3⟩)
      · gi_wp2
        go_roundw
        case rel => exact ⟨m + 1, pre ++ [⟨m, hlt⟩], by omega, by go_num, by unfold Hid; rw [List.map_append, hpre.out, List.range_succ]; rfl, hJ3, hnx.trans hk3.1, hk3.2.trans hbox.out⟩
        case measure => simp [intOf]; omega
      · gi_wp2
        refine bodyPost_ret (results_none rfl _ _ _) rfl ?_
        exact ⟨⟨_, rfl⟩, .inr ⟨_, trivial, hJx3⟩⟩
    · have hij : m = L.length := by omega
      subst hij
      replace hbox := Lib.hid hbox
      gi_wp2
      go_end0
      exact ⟨⟨_, rfl⟩, .inl ⟨pre, hpre.out, hJs⟩⟩
theorem al_stops (F : Fence) (n : Nat) (hF : F.fn 153) (hro : F.round = none) (hn : 1 ≤ n) (Bs n₀ cap : Nat) (y : Option Addr) (L : List Int) (hl6 : L.length ≤ 1048576) (w : World) (hn₀ : n₀ ≤ w.heap.size)
    (hBs : Boxed w Bs 22 (.slice y L.length cap))
    (hc : ∀ j, j < L.length → ∃ b off, y = some ⟨b, off, none⟩ ∧ b < n₀ ∧ w.cell? ⟨b, off + j, none⟩ = some (.int .i64 (alV L j))) :
    SeqStopsK F n Try.prog 153 #[.pointer (some ⟨Bs, 0, none⟩)] (fun x : AlI L => #[.int .i64 (x.1 : Int), .int .i64 (alV L x.1)]) (KpB n₀ Bs)
      (fun ys => alM ys = List.range L.length) (fun _ => True) L.length w := fun l J Jx W hW _ _ hY h0 =>
  al1_in F n hF hro hn l Bs n₀ cap y L hl6 J Jx hY W (boxed_below hBs hW) (fun j hj => by
    obtain ⟨b, off, e, hb, h⟩ := hc j hj
    exact ⟨b, off, e, hb, (hW.cell (p := ⟨b, off + j, none⟩) (Nat.lt_of_lt_of_le hb hn₀)).trans h⟩) h0
theorem al_any (x : Option Addr) (len cap : Nat) (w : World) :
    Calls Try.prog 107 #[.slice x len cap] w fun e w' => e = .returned (.func (.func 153) #[] #[.pointer (some ⟨w.heap.size, 0, none⟩)]) ∧ w' = w.alloc (.cells #[.slice x len cap] 22) := by
  go_enter Try.func107, Try.ntmps107
  go_wp2
  go_ret
  exact ⟨rfl, rfl⟩
end Go.Proofs.Ytpmbenedeakieaa

namespace Go.Proofs.Ytpmbenedeakieaa
open Go.RowKit Go.Shelf
set_option maxRecDepth 100000
attribute [local go_sem] Oper.semAt_some

/-- A list's numbers, at the places of another list, added to sums. -/
def acF (Z L : List Int) (ks : List Nat) : List Int := ks.foldl (fun X k => X.set k (X.getD k 0 + alV L k)) Z
theorem acF_snoc (Z L : List Int) (ks : List Nat) (k : Nat) : acF Z L (ks ++ [k]) = (acF Z L ks).set k ((acF Z L ks).getD k 0 + alV L k) := by unfold acF; rw [List.foldl_append]; rfl
theorem acF_len (Z L : List Int) (ks : List Nat) : (acF Z L ks).length = Z.length := by
  refine rev_ind (P := fun ks => (acF Z L ks).length = Z.length) rfl (fun r k ih => ?_) ks
  rw [acF_snoc, List.length_set]
  exact ih
theorem acF_bd {Z L : List Int} (hZ : ∀ j, -1000000 ≤ Z.getD j 0 ∧ Z.getD j 0 ≤ 1000000) (hL : ∀ j, -1000000 ≤ alV L j ∧ alV L j ≤ 1000000) (ks : List Nat) : ∀ j, -1000000 * ((ks.length : Int) + 1) ≤ (acF Z L ks).getD j 0 ∧ (acF Z L ks).getD j 0 ≤ 1000000 * ((ks.length : Int) + 1) := by
  refine rev_ind (P := fun ks => ∀ j, -1000000 * ((ks.length : Int) + 1) ≤ (acF Z L ks).getD j 0 ∧ (acF Z L ks).getD j 0 ≤ 1000000 * ((ks.length : Int) + 1)) (fun j => ?_) (fun r k ih j => ?_) ks
  · have := hZ j
    show _ ≤ Z.getD j 0 ∧ Z.getD j 0 ≤ _
    simp only [List.length_nil]
    omega
  · rw [acF_snoc, List.getD_eq_getElem?_getD, List.getElem?_set]
    have h1 := ih j
    have h2 := ih k
    have h3 := hL k
    simp only [List.length_append, List.length_cons, List.length_nil]
    split
    · split
      · simp only [Option.getD_some]
        omega
      · simp only [Option.getD_none]
        omega
    · rw [← List.getD_eq_getElem?_getD]
      omega
theorem acF_range (Z L : List Int) : ∀ m, m ≤ Z.length → acF Z L (List.range m) = acK Z L m
  | 0, _ => rfl
  | m + 1, h => by
    rw [List.range_succ, acF_snoc, acF_range Z L m (by omega)]
    show _ = (acK Z L m).set m _
    rw [List.getD_eq_getElem?_getD, acK_late Z L m m (Nat.le_refl _), ← List.getD_eq_getElem?_getD]
    rfl
/-- The sums after j lists. -/
def acS (A B : List Int) : Nat → List Int
  | 0 => List.replicate A.length 0
  | 1 => A
  | _ => acK A B A.length
theorem acS_len (A B : List Int) : ∀ j, (acS A B j).length = A.length
  | 0 => by unfold acS; simp
  | 1 => rfl
  | n + 2 => by show (acK A B A.length).length = _; rw [acK_len]
end Go.Proofs.Ytpmbenedeakieaa

namespace Go.Proofs.Ytpmbenedeakieaa
open Go.RowKit Go.Shelf
set_option maxRecDepth 100000
attribute [local go_sem] Oper.semAt_some

theorem own_intA {w : World} {base e g cap n : Nat} {L : List Int} (h : w.ownsRow base e 1 (.slice (some ⟨g, 0, none⟩) n cap) n (iC L)) {j : Nat} (hj : j < n) : w.cell? ⟨g, j, none⟩ = some (.int .i64 (L.getD j 0)) := by
  obtain ⟨u, hu, k⟩ := own_cell h (j := j) (by omega)
  rw [k]
  have e : (iC L)[j]? = (L[j]?).map (fun n => Value.int .i64 n) := by unfold iC; simp
  rw [e] at hu
  rw [List.getD_eq_getElem?_getD]
  cases hq : L[j]? with
  | none => rw [hq] at hu; cases hu
  | some v => rw [hq] at hu; cases hu; rfl
theorem ac_post {w W : World} {n₀ g Bi Bs e n : Nat} {tv : TypeId} {vv : Value} {L : List Int} (B : Nat) (b1 : Boxed W Bi tv vv) (r1 : W.ownsRow g e 1 (.slice (some ⟨g, 0, none⟩) n n) n (iC L)) (hB : Below n₀ w W)
    (hg : n₀ ≤ g) (h1 : Bi ≠ g) (h3 : Bs ≠ g) (j : Nat) (v : Int) :
    KeepsFrom B W (W.setCell ⟨g, j, none⟩ (.int .i64 v)) ∧ KpB n₀ Bs W (W.setCell ⟨g, j, none⟩ (.int .i64 v)) ∧
      ((Boxed (W.setCell ⟨g, j, none⟩ (.int .i64 v)) Bi tv vv ∧ (W.setCell ⟨g, j, none⟩ (.int .i64 v)).ownsRow g e 1 (.slice (some ⟨g, 0, none⟩) n n) n (iC (L.set j v))) ∧ Below n₀ w (W.setCell ⟨g, j, none⟩ (.int .i64 v))) := by
  have a1 := boxed_far b1 ⟨g, j, none⟩ h1 (.int .i64 v)
  have a4 := (r1.stored j (.int .i64 v)).1
  rw [← iC_setA] at a4
  have a5 : Below n₀ W (W.setCell ⟨g, j, none⟩ (.int .i64 v)) := ((Below.refl n₀ W).setCell (p := ⟨g, j, none⟩) hg _)
  exact ⟨(KeepsOthers.setCell _ _ _).from _, ⟨a5, Below.heap_setCell _ _ _ _ h3⟩, ⟨⟨a1, a4⟩, hB.trans a5⟩⟩
theorem zr_bd (n j : Nat) : -1000000 ≤ (List.replicate n (0 : Int)).getD j 0 ∧ (List.replicate n (0 : Int)).getD j 0 ≤ 1000000 := by
  have e : (List.replicate n (0 : Int)).getD j 0 = 0 := by
    rw [List.getD_eq_getElem?_getD, List.getElem?_replicate]
    split <;> rfl
  rw [e]
  omega
theorem ownFrom_obj {β : Type} {B D : Nat} {o : Obj} (hD : D < B) : OwnFrom B (fun (_ : β) W => W.heap[D]? = some o) :=
  fun _ X Y row hs hg hr => (hg.block D (Array.getElem?_eq_some_iff.1 hs).1 (by intro e; have := (hr D e.symm).1; omega)).trans hs
theorem alV_bd {L : List Int} (h : cvB L = true) (j : Nat) : -1000000 ≤ alV L j ∧ alV L j ≤ 1000000 := by
  unfold alV
  rw [List.getD_eq_getElem?_getD]
  cases hq : L[j]? with
  | none => simp
  | some v => exact cv_at h hq
theorem al_cells {w W : World} {x : Option Addr} {L : List Int} (h : IIn w x L) (hb : Below w.heap.size w W) (j : Nat) (hj : j < L.length) : ∃ b off, x = some ⟨b, off, none⟩ ∧ b < w.heap.size ∧ W.cell? ⟨b, off + j, none⟩ = some (.int .i64 (alV L j)) := by
  obtain ⟨bl, off, v, rfl, hbl, hLi, hc0⟩ := h.2.2.int hj
  exact ⟨bl, off, rfl, hbl, by rw [alV_at hLi]; exact (hb.cell (p := ⟨bl, off + j, none⟩) hbl).trans hc0⟩
set_option maxHeartbeats 4000000 in
theorem sums_any (Ba Bb g0 ca cb : Nat) (ya yb : Option Addr) (A B : List Int) (w : World) (hl : A.length = B.length) (hca : cvB A = true) (hcb : cvB B = true) (hA : IIn w ya A) (hB : IIn w yb B) (hba : Boxed w Ba 22 (.slice ya A.length ca)) (hbb : Boxed w Bb 22 (.slice yb B.length cb))
    (hg : g0 < w.heap.size) (hg0 : w.cell? ⟨g0, 0, none⟩ = some (.func (.func 153) #[] #[.pointer (some ⟨Ba, 0, none⟩)])) (hg1 : w.cell? ⟨g0, 1, none⟩ = some (.func (.func 153) #[] #[.pointer (some ⟨Bb, 0, none⟩)])) :
    Calls Try.prog 86 #[.int .i64 A.length, .slice (some ⟨g0, 0, none⟩) 2 2] w fun e w' => ∃ u, e = .returned u ∧ w'.ownsRow w.heap.size 3 1 u A.length (iC (acK A B A.length)) ∧ Below w.heap.size w w' := by
  obtain ⟨i0, hi, hz0, hz1, hz2⟩ := info_parts Try.infoInt
  have hlh := Lib.hid hl
  have hcah := Lib.hid hca
  have hcbh := Lib.hid hcb
  have hAh := Lib.hid hA
  have hBh := Lib.hid hB
  have h6 := cv_len hca
  have hbah := Lib.hid hba
  have hbbh := Lib.hid hbb
  have hg0h := Lib.hid hg0
  have hg1h := Lib.hid hg1
  clear hl hca hcb hA hB hba hbb hg0 hg1
  have hbbt : i0.bytes * A.length ≤ 281474976710656 := by rw [hz2]; omega
  have hmm : A.length ≤ maxLen := by unfold maxLen; omega
  refine (callsIn_wide (n := 5)).1 ?_
  refine callsIn_of_wp_marks Try.func86 rfl trivial ?_ rfl
  simp only [Try.ntmps86, List.size_toArray, List.length_cons, List.length_nil, Nat.reduceAdd, Nat.reduceSub, Array.replicate_succ, Array.replicate_zero, List.push_toArray, List.append_toArray, List.nil_append, List.cons_append]
  refine wpIn_wide.2 ?_
  go_wp2_with (at_make; go_loud (refine wpList_make_full _ rfl _ _ 22 rfl w.heap.size 3 i0 (.int .i64 0) 1 Try.underlying22 hi hz0 hz1 .i64 .i64 _ _ A.length rfl rfl rfl rfl hbbt hmm (Nat.le_refl _) (fun w1 hown hgrow => ?_)))
  have hb1 : Below w.heap.size w w1 := (Below.refl _ _).grown hgrow (Nat.le_refl _) (by intro k hk; cases hk)
  rw [made_zeros] at hown
  clear hgrow hi hz0 hz1 hz2 hbbt hmm
  have hw1 := (own_lt hown).2
  have bV := (Boxed.new w1 22 (.slice (some ⟨w.heap.size, 0, none⟩) A.length A.length))
  have bR := (hown.alloc (.cells #[.slice (some ⟨w.heap.size, 0, none⟩) A.length A.length] 22))
  have hbV := Lib.hid bV
  have hbR := Lib.hid bR
  have hbA : Below w.heap.size w (w1.alloc (.cells #[.slice (some ⟨w.heap.size, 0, none⟩) A.length A.length] 22)) := (by repeat (first | exact Below.refl _ _ | assumption | refine Below.drew ?_ | refine below_drewN ?_ _ | refine Below.alloc' ?_ _ | (refine Below.setCell ?_ (by first | omega | (simp; done) | (simp; omega) | exact Below.size (by assumption) | exact Nat.le_trans (Below.size (by assumption)) (by simp)) _) | (refine Below.via' ?_ (by assumption)) | (refine Below.alloc ?_ (by first | omega | (simp; done) | (simp; omega) | exact Below.size (by assumption) | exact Nat.le_trans (Below.size (by assumption)) (by simp)) _) | (refine Below.via ?_ (by assumption) (by first | omega | (simp; done) | (simp; omega) | exact Below.size (by assumption) | exact Nat.le_trans (Below.size (by assumption)) (by simp)))))
  clear bV bR hown hb1
  go_wp2
  have hg0h' := hg0h.out
  have hbs := hbA.size
  have hBs := hbA
  replace hbA := Lib.hid hbA
  have c0 := (hBs.cell (p := ⟨g0, 0, none⟩) hg).trans hg0h'
  clear hg0h'
  refine wp_loop_rounds 3 ?_
  rw [rounds_succ]
  go_wp2
  have hbs0 := boxed_below hbah.out hBs
  have hB0 := hBs
  have hBa := hbah.out.lt
  have hBb := hbbh.out.lt
  have hs0 : (w1.alloc (.cells #[.slice (some ⟨w.heap.size, 0, none⟩) A.length A.length] 22)).heap.size = w1.heap.size + 1 := by simp
  obtain ⟨W0, hW0⟩ : ∃ W0, w1.alloc (.cells #[.slice (some ⟨w.heap.size, 0, none⟩) A.length A.length] 22) = W0 := ⟨_, rfl⟩
  rw [hW0] at hbV hbR hbs hBs hbA c0 hbs0 hB0 hs0 ⊢
  clear hW0 hbA c0 hBs
  refine (wpIn_wide (n := 5)).1 ?_
  refine wpIn_rangeFunc_ownH (F := Fence.wide) (n := 5) rfl (by omega) (gf := 153) (lb := #[.pointer (some ⟨Ba, 0, none⟩)]) rfl trivial (enters_of Try.func153 (by kernel_rfl) rfl)
    (al_stops Fence.wide 4 trivial rfl (by omega) Ba w.heap.size ca ya A (by omega) W0 hbs hbs0 (al_cells hAh.out hB0))
    (fun h k => ⟨h.1.trans k.1, k.2.trans h.2⟩) (fun W l o o' hl hlo hc hw => ⟨belowK_b (w := w) (Nat.le_refl _) W l o o' (by omega) hlo hc hw, World.putObj_heap_other (by intro e; omega)⟩) (Below.refl _ _) (fun _ => rfl)
    (fun pre W => (Boxed W w1.heap.size 22 (.slice (some ⟨w.heap.size, 0, none⟩) A.length A.length) ∧ W.ownsRow w.heap.size 3 1 (.slice (some ⟨w.heap.size, 0, none⟩) A.length A.length) A.length (iC (acF (List.replicate A.length 0) A (alM pre)))) ∧ Below w.heap.size w W)
    (fun _ _ _ => False)
    (OwnFrom.and (OwnFrom.and (Own.from (boxed_own _ _ _) _) (Own.from (row_own _ _ _ _ _ _ _) _)) (ownFrom_below (Nat.le_refl _) hbs))
    (fun _ _ _ _ _ hs _ _ => hs)
    ⟨⟨hbV.out, hbR.out⟩, hB0⟩
    (fun z a' _ => a' = { tmps := #[.int .i64 A.length, .slice (some ⟨g0, 0, none⟩) 2 2, undef, undef, .slice none 0 0, .pointer (some ⟨w1.heap.size, 0, none⟩), undef, .func (.func 153) #[] #[.pointer (some ⟨Ba, 0, none⟩)], .int .i64 (z.1 : Int), .int .i64 (alV A z.1), .int .i64 A.length, .slice (some ⟨w.heap.size, 0, none⟩) A.length A.length, .slice (some ⟨g0, 0, none⟩) 2 2, .int .i64 2, .int .i64 0, .bool true, .pointer (some ⟨g0, 0, none⟩), .func (.func 153) #[] #[.pointer (some ⟨Ba, 0, none⟩)], .func (.func 153) #[] #[.pointer (some ⟨Ba, 0, none⟩)], .int .i64 (z.1 : Int), .int .i64 (alV A z.1), undef, undef, undef, undef, undef, undef, undef, undef, undef], defers := [] })
    (fun z a' _ X Y row hs hg hr => hs)
    ?assign ?body ?done ?stop
  case assign =>
    rintro l pre z W K ⟨⟨b1, r1⟩, hB1⟩ hK
    gi_wp2
    exact hK _ _ (KeepsFrom.refl _ W) ⟨Below.refl _ _, rfl⟩ ⟨⟨b1, r1⟩, hB1⟩ rfl
  case body =>
    rintro l pre z a' W hl ⟨r, hr⟩ ⟨⟨b1, r1⟩, hB1⟩ rfl hlt
    have c1 := b1.cell
    have hz := z.2
    have hzA : z.1 < A.length := by omega
    have k0 := own_intA r1 hzA
    have k2 := r1.frozenAt z.1
    have q1 := acF_bd (Z := List.replicate A.length 0) (L := A) (zr_bd A.length) (alV_bd hcah.out) (alM pre) z.1
    rw [show (alM pre).length = pre.length from List.length_map _] at q1
    have q2 := alV_bd hcah.out z.1
    have hzi : (z.1 : Int) < (A.length : Int) := by omega
    have t3 : wrap64 ((acF (List.replicate A.length 0) A (alM pre)).getD z.1 0 + alV A z.1) = (acF (List.replicate A.length 0) A (alM pre)).getD z.1 0 + alV A z.1 := IntWalk.wrap64_in _ (by omega)
    have hst : acF (List.replicate A.length 0) A (alM (pre ++ [z])) = (acF (List.replicate A.length 0) A (alM pre)).set z.1 ((acF (List.replicate A.length 0) A (alM pre)).getD z.1 0 + alV A z.1) := by
      show acF (List.replicate A.length 0) A ((pre ++ [z]).map (·.1)) = _
      rw [List.map_append]
      exact acF_snoc _ _ _ _
    have hpost := Lib.hid (ac_post (Bs := Ba) W0.heap.size b1 r1 hB1 (Nat.le_refl _) (by omega) (by omega) z.1 ((acF (List.replicate A.length 0) A (alM pre)).getD z.1 0 + alV A z.1))
    replace hst := Lib.hid hst
    replace t3 := Lib.hid t3
    clear hl hr b1 r1 hB1 q1 q2 hlt
    gi_wp2
    rw [← List.getD_eq_getElem?_getD, t3.out]
    refine ⟨hpost.out.1, hpost.out.2.1, ?_⟩
    simp only [hst.out]
    exact hpost.out.2.2
  case done =>
    rintro D ys W1 hD hys ⟨⟨b1, r1⟩, hB1'⟩ hK
    rw [hys, acF_range _ _ _ (by rw [List.length_replicate]; exact Nat.le_refl _), acK_zero] at r1
    have hbV1 := Lib.hid b1
    have hbR1 := Lib.hid r1
    have hbz := hB1'.size
    have hbs1 := boxed_below hbbh.out hB1'
    have c1 := (hB1'.cell (p := ⟨g0, 1, none⟩) hg).trans hg1h.out
    have hDl : D < W1.heap.size := (Array.getElem?_eq_some_iff.1 hK).1
    have hDw : D ≠ w.heap.size := by omega
    have hDg : w.heap.size ≤ D := by omega
    have hb1l := b1.lt
    have hKh := Lib.hid hK
    clear b1 r1 hys hbV hbR hbs hbs0 hB0 hs0 hD hK
    go_wp2
    rw [rounds_succ]
    go_wp2
    have hK := hKh.out
    refine (wpIn_wide (n := 5)).1 ?_
    refine wpIn_rangeFunc_ownH (F := Fence.wide) (n := 5) rfl (by omega) (gf := 153) (lb := #[.pointer (some ⟨Bb, 0, none⟩)]) rfl trivial (enters_of Try.func153 (by kernel_rfl) rfl)
      (al_stops Fence.wide 4 trivial rfl (by omega) Bb w.heap.size cb yb B (by have := hlh.out; omega) W1 hbz hbs1 (al_cells hBh.out hB1'))
      (fun h k => ⟨h.1.trans k.1, k.2.trans h.2⟩) (fun W l o o' hl hlo hc hw => ⟨belowK_b (w := w) (Nat.le_refl _) W l o o' (by omega) hlo hc hw, World.putObj_heap_other (by intro e; omega)⟩) (Below.refl _ _) (fun _ => rfl)
      (fun pre W => ((Boxed W w1.heap.size 22 (.slice (some ⟨w.heap.size, 0, none⟩) A.length A.length) ∧ W.ownsRow w.heap.size 3 1 (.slice (some ⟨w.heap.size, 0, none⟩) A.length A.length) A.length (iC (acF A B (alM pre)))) ∧ Below w.heap.size w W) ∧ W.heap[D]? = some (.deferred (some [])))
      (fun _ _ _ => False)
      (OwnFrom.and (OwnFrom.and (OwnFrom.and (Own.from (boxed_own _ _ _) _) (Own.from (row_own _ _ _ _ _ _ _) _)) (ownFrom_below (Nat.le_refl _) hbz)) (ownFrom_obj hDl))
      (fun _ _ _ _ _ hs _ _ => hs)
      ⟨⟨⟨hbV1.out, hbR1.out⟩, hB1'⟩, hK⟩
      (fun z a' _ => a' = { tmps := #[.int .i64 A.length, .slice (some ⟨g0, 0, none⟩) 2 2, undef, undef, .slice none 0 0, .pointer (some ⟨w1.heap.size, 0, none⟩), undef, .func (.func 153) #[] #[.pointer (some ⟨Bb, 0, none⟩)], .int .i64 (z.1 : Int), .int .i64 (alV B z.1), .int .i64 A.length, .slice (some ⟨w.heap.size, 0, none⟩) A.length A.length, .slice (some ⟨g0, 0, none⟩) 2 2, .int .i64 2, .int .i64 1, .bool true, .pointer (some ⟨g0, 1, none⟩), .func (.func 153) #[] #[.pointer (some ⟨Bb, 0, none⟩)], .func (.func 153) #[] #[.pointer (some ⟨Bb, 0, none⟩)], .int .i64 (z.1 : Int), .int .i64 (alV B z.1), undef, undef, undef, undef, undef, undef, undef, .int .i64 1, undef], defers := [] })
      (fun z a' _ X Y row hs hg hr => hs)
      ?assign2 ?body2 ?done2 ?stop2
    case assign2 =>
      rintro l pre z W K ⟨⟨⟨b1, r1⟩, hB1⟩, hd1⟩ hK'
      gi_wp2
      exact hK' _ _ (KeepsFrom.refl _ W) ⟨Below.refl _ _, rfl⟩ ⟨⟨⟨b1, r1⟩, hB1⟩, hd1⟩ rfl
    case body2 =>
      rintro l pre z a' W hl ⟨r, hr⟩ ⟨⟨⟨b1, r1⟩, hB1⟩, hd1⟩ rfl hlt
      have c1 := b1.cell
      have hz := z.2
      have hlo := hlh.out
      have hzA : z.1 < A.length := by omega
      have k0 := own_intA r1 hzA
      have k2 := r1.frozenAt z.1
      have q1 := acF_bd (Z := A) (L := B) (fun j => alV_bd hcah.out j) (alV_bd hcbh.out) (alM pre) z.1
      rw [show (alM pre).length = pre.length from List.length_map _] at q1
      have q2 := alV_bd hcbh.out z.1
      have hzi : (z.1 : Int) < (A.length : Int) := by omega
      have t3 : wrap64 ((acF A B (alM pre)).getD z.1 0 + alV B z.1) = (acF A B (alM pre)).getD z.1 0 + alV B z.1 := IntWalk.wrap64_in _ (by omega)
      have hst : acF A B (alM (pre ++ [z])) = (acF A B (alM pre)).set z.1 ((acF A B (alM pre)).getD z.1 0 + alV B z.1) := by
        show acF A B ((pre ++ [z]).map (·.1)) = _
        rw [List.map_append]
        exact acF_snoc _ _ _ _
      have hpost := Lib.hid (ac_post (Bs := Bb) W1.heap.size b1 r1 hB1 (Nat.le_refl _) (by omega) (by omega) z.1 ((acF A B (alM pre)).getD z.1 0 + alV B z.1))
      replace hst := Lib.hid hst
      replace t3 := Lib.hid t3
      have hd2 := Lib.hid hd1
      clear hl hr b1 r1 hB1 q1 q2 hlt hd1 hlo
      gi_wp2
      rw [← List.getD_eq_getElem?_getD, t3.out]
      refine ⟨hpost.out.1, hpost.out.2.1, ?_⟩
      simp only [hst.out]
      exact ⟨hpost.out.2.2, (Below.heap_setCell _ _ _ _ hDw).trans hd2.out⟩
    case done2 =>
      rintro D2 ys2 W hD2 hys2 ⟨⟨⟨b1, r1⟩, hB2⟩, hd1⟩ hK2
      rw [hys2, ← hlh.out, acF_range _ _ _ (Nat.le_refl _)] at r1
      have d1 := b1.cell
      have hr2 := Lib.hid r1
      have hd1h := Lib.hid hd1
      have hK2h := Lib.hid hK2
      clear b1 r1 hys2 hbV1 hbR1 hd1 hK2 hK hKh c1
      go_wp2
      rw [rounds_succ]
      go_wp2
      refine ⟨by simp, .inl ⟨_, _, rfl, run_takeDeferred hK2h.out, ?_⟩⟩
      have hne : D ≠ D2 := by omega
      have hK3 : (W.putObj D2 (.deferred none)).heap[D]? = some (.deferred (some [])) := (World.putObj_heap_other hne).trans hd1h.out
      refine ⟨by simp, .inl ⟨_, _, rfl, run_takeDeferred hK3, ?_⟩⟩
      refine ⟨.slice (some ⟨w.heap.size, 0, none⟩) A.length A.length, by simp [results, Try.results86, go_sem], _, rfl, ?_, ?_⟩
      · exact ownsRow_putObj (ownsRow_putObj hr2.out (.deferred none) hK2h.out rfl) (.deferred none) hK3 rfl
      · exact (hB2.trans (belowK_b (w := w) (Nat.le_refl _) W D2 _ _ (by omega) hK2h.out rfl rfl)).trans (belowK_b (w := w) (Nat.le_refl _) _ D _ _ (by omega) hK3 rfl rfl)
    case stop2 =>
      rintro D c pre W _ _ h _
      exact h.elim
  case stop =>
    rintro D c pre W _ _ h _
    exact h.elim
end Go.Proofs.Ytpmbenedeakieaa

namespace Go.Proofs.Ytpmbenedeakieaa
open Go.RowKit Go.Shelf
set_option maxRecDepth 100000
attribute [local go_sem] Oper.semAt_some

/-- A place below n and a number of at most 1000. -/
abbrev ToI (n : Nat) := { p : Nat × Int // p.1 < n ∧ -1000 ≤ p.2 ∧ p.2 ≤ 1000 }
def toM {n : Nat} (pre : List (ToI n)) : List (Nat × Int) := pre.map (·.1)
/-- Numbers, each added to the sum at its place. -/
def toF (Z : List Int) (ps : List (Nat × Int)) : List Int := ps.foldl (fun X p => X.set p.1 (X.getD p.1 0 + p.2)) Z
theorem toF_snoc (Z : List Int) (ps : List (Nat × Int)) (p : Nat × Int) : toF Z (ps ++ [p]) = (toF Z ps).set p.1 ((toF Z ps).getD p.1 0 + p.2) := by unfold toF; rw [List.foldl_append]; rfl
theorem toF_len (Z : List Int) (ps : List (Nat × Int)) : (toF Z ps).length = Z.length := by
  refine rev_ind (P := fun ps => (toF Z ps).length = Z.length) rfl (fun r k ih => ?_) ps
  rw [toF_snoc, List.length_set]
  exact ih
theorem toF_bd {n : Nat} (k : Nat) (ps : List (ToI n)) : ∀ j, -1000 * (ps.length : Int) ≤ (toF (List.replicate k 0) (toM ps)).getD j 0 ∧ (toF (List.replicate k 0) (toM ps)).getD j 0 ≤ 1000 * (ps.length : Int) := by
  refine rev_ind (P := fun ps => ∀ j, -1000 * (ps.length : Int) ≤ (toF (List.replicate k 0) (toM ps)).getD j 0 ∧ (toF (List.replicate k 0) (toM ps)).getD j 0 ≤ 1000 * (ps.length : Int)) (fun j => ?_) (fun r x ih j => ?_) ps
  · have e : (List.replicate k (0 : Int)).getD j 0 = 0 := by
      rw [List.getD_eq_getElem?_getD, List.getElem?_replicate]
      split <;> rfl
    show _ ≤ (List.replicate k (0 : Int)).getD j 0 ∧ (List.replicate k (0 : Int)).getD j 0 ≤ _
    rw [e]
    simp
  · rw [show toM (r ++ [x]) = toM r ++ [x.1] by unfold toM; rw [List.map_append]; rfl, toF_snoc, List.getD_eq_getElem?_getD, List.getElem?_set]
    have h1 := ih j
    have h2 := ih x.1.1
    have h3 := x.2
    simp only [List.length_append, List.length_cons, List.length_nil]
    split
    · split
      · simp only [Option.getD_some]
        omega
      · simp only [Option.getD_none]
        omega
    · rw [← List.getD_eq_getElem?_getD]
      omega
set_option maxHeartbeats 4000000 in
theorem sumsOne_any (gf : Nat) (lb : Array Value) (g0 n N : Nat) (L : List (Nat × Int)) (w : World) (hn6 : n ≤ 600) (hN : N ≤ 1000) (hent : ∀ args w, (callFunc gf args).run Try.prog w = .ok (.enter gf args) w)
    (hseq : ∀ W0, Below w.heap.size w W0 → SeqStopsK Fence.wide 4 Try.prog gf lb (fun x : ToI n => #[.int .i64 (x.1.1 : Int), .int .i64 x.1.2]) (fun X Y => Below w.heap.size X Y) (fun ys => toM ys = L) (fun _ => True) N W0)
    (hg : g0 < w.heap.size) (hg0 : w.cell? ⟨g0, 0, none⟩ = some (.func (.func gf) #[] lb)) :
    Calls Try.prog 86 #[.int .i64 n, .slice (some ⟨g0, 0, none⟩) 1 1] w fun e w' => ∃ u, e = .returned u ∧ w'.ownsRow w.heap.size 3 1 u n (iC (toF (List.replicate n 0) L)) ∧ Below w.heap.size w w' := by
  obtain ⟨i0, hi, hz0, hz1, hz2⟩ := info_parts Try.infoInt
  have hg0h := Lib.hid hg0
  have hseqh := Lib.hid hseq
  clear hg0 hseq
  have hbbt : i0.bytes * n ≤ 281474976710656 := by rw [hz2]; omega
  have hmm : n ≤ maxLen := by unfold maxLen; omega
  refine (callsIn_wide (n := 5)).1 ?_
  refine callsIn_of_wp_marks Try.func86 rfl trivial ?_ rfl
  simp only [Try.ntmps86, List.size_toArray, List.length_cons, List.length_nil, Nat.reduceAdd, Nat.reduceSub, Array.replicate_succ, Array.replicate_zero, List.push_toArray, List.append_toArray, List.nil_append, List.cons_append]
  refine wpIn_wide.2 ?_
  go_wp2_with (at_make; go_loud (refine wpList_make_full _ rfl _ _ 22 rfl w.heap.size 3 i0 (.int .i64 0) 1 Try.underlying22 hi hz0 hz1 .i64 .i64 _ _ n rfl rfl rfl rfl hbbt hmm (Nat.le_refl _) (fun w1 hown hgrow => ?_)))
  have hb1 : Below w.heap.size w w1 := (Below.refl _ _).grown hgrow (Nat.le_refl _) (by intro k hk; cases hk)
  rw [made_zeros] at hown
  clear hgrow hi hz0 hz1 hz2 hbbt hmm
  have hw1 := (own_lt hown).2
  have bV := (Boxed.new w1 22 (.slice (some ⟨w.heap.size, 0, none⟩) n n))
  have bR := (hown.alloc (.cells #[.slice (some ⟨w.heap.size, 0, none⟩) n n] 22))
  have hbV := Lib.hid bV
  have hbR := Lib.hid bR
  have hbA : Below w.heap.size w (w1.alloc (.cells #[.slice (some ⟨w.heap.size, 0, none⟩) n n] 22)) := (by repeat (first | exact Below.refl _ _ | assumption | refine Below.drew ?_ | refine below_drewN ?_ _ | refine Below.alloc' ?_ _ | (refine Below.setCell ?_ (by first | omega | (simp; done) | (simp; omega) | exact Below.size (by assumption) | exact Nat.le_trans (Below.size (by assumption)) (by simp)) _) | (refine Below.via' ?_ (by assumption)) | (refine Below.alloc ?_ (by first | omega | (simp; done) | (simp; omega) | exact Below.size (by assumption) | exact Nat.le_trans (Below.size (by assumption)) (by simp)) _) | (refine Below.via ?_ (by assumption) (by first | omega | (simp; done) | (simp; omega) | exact Below.size (by assumption) | exact Nat.le_trans (Below.size (by assumption)) (by simp)))))
  clear bV bR hown hb1
  go_wp2
  have hg0h' := hg0h.out
  have hbs := hbA.size
  have hBs := hbA
  replace hbA := Lib.hid hbA
  have c0 := (hBs.cell (p := ⟨g0, 0, none⟩) hg).trans hg0h'
  clear hg0h'
  refine wp_loop_rounds 2 ?_
  rw [rounds_succ]
  go_wp2
  have hB0 := hBs
  have hs0 : (w1.alloc (.cells #[.slice (some ⟨w.heap.size, 0, none⟩) n n] 22)).heap.size = w1.heap.size + 1 := by simp
  obtain ⟨W0, hW0⟩ : ∃ W0, w1.alloc (.cells #[.slice (some ⟨w.heap.size, 0, none⟩) n n] 22) = W0 := ⟨_, rfl⟩
  rw [hW0] at hbV hbR hbs hBs hbA c0 hB0 hs0 ⊢
  clear hW0 hbA c0 hBs
  refine (wpIn_wide (n := 5)).1 ?_
  refine wpIn_rangeFunc_ownH (F := Fence.wide) (n := 5) rfl (by omega) (gf := gf) (lb := lb) rfl trivial hent
    (hseqh.out W0 hB0)
    (fun h k => h.trans k) (fun W l o o' hl hlo hc hw => belowK_b (w := w) (Nat.le_refl _) W l o o' (by omega) hlo hc hw) (Below.refl _ _) (fun _ => rfl)
    (fun pre W => (Boxed W w1.heap.size 22 (.slice (some ⟨w.heap.size, 0, none⟩) n n) ∧ W.ownsRow w.heap.size 3 1 (.slice (some ⟨w.heap.size, 0, none⟩) n n) n (iC (toF (List.replicate n 0) (toM pre)))) ∧ Below w.heap.size w W)
    (fun _ _ _ => False)
    (OwnFrom.and (OwnFrom.and (Own.from (boxed_own _ _ _) _) (Own.from (row_own _ _ _ _ _ _ _) _)) (ownFrom_below (Nat.le_refl _) hbs))
    (fun _ _ _ _ _ hs _ _ => hs)
    ⟨⟨hbV.out, hbR.out⟩, hB0⟩
    (fun z a' _ => a' = { tmps := #[.int .i64 n, .slice (some ⟨g0, 0, none⟩) 1 1, undef, undef, .slice none 0 0, .pointer (some ⟨w1.heap.size, 0, none⟩), undef, .func (.func gf) #[] lb, .int .i64 (z.1.1 : Int), .int .i64 (z.1.2), .int .i64 n, .slice (some ⟨w.heap.size, 0, none⟩) n n, .slice (some ⟨g0, 0, none⟩) 1 1, .int .i64 1, .int .i64 0, .bool true, .pointer (some ⟨g0, 0, none⟩), .func (.func gf) #[] lb, .func (.func gf) #[] lb, .int .i64 (z.1.1 : Int), .int .i64 (z.1.2), undef, undef, undef, undef, undef, undef, undef, undef, undef], defers := [] })
    (fun z a' _ X Y row hs hg hr => hs)
    ?assign ?body ?done ?stop
  case assign =>
    rintro l pre z W K ⟨⟨b1, r1⟩, hB1⟩ hK
    gi_wp2
    exact hK _ _ (KeepsFrom.refl _ W) (Below.refl _ _) ⟨⟨b1, r1⟩, hB1⟩ rfl
  case body =>
    rintro l pre z a' W hl ⟨r, hr⟩ ⟨⟨b1, r1⟩, hB1⟩ rfl hlt
    have c1 := b1.cell
    obtain ⟨hz, hz2, hz3⟩ := z.2
    have k0 := own_intA r1 hz
    have k2 := r1.frozenAt z.1.1
    have q1 := toF_bd n pre z.1.1
    have hzi : (z.1.1 : Int) < (n : Int) := by omega
    have t3 : wrap64 ((toF (List.replicate n 0) (toM pre)).getD z.1.1 0 + z.1.2) = (toF (List.replicate n 0) (toM pre)).getD z.1.1 0 + z.1.2 := IntWalk.wrap64_in _ (by omega)
    have hst : toF (List.replicate n 0) (toM (pre ++ [z])) = (toF (List.replicate n 0) (toM pre)).set z.1.1 ((toF (List.replicate n 0) (toM pre)).getD z.1.1 0 + z.1.2) := by
      rw [show toM (pre ++ [z]) = toM pre ++ [z.1] by unfold toM; rw [List.map_append]; rfl]
      exact toF_snoc _ _ _
    have hpost := Lib.hid (ac_post (Bs := w1.heap.size) W0.heap.size b1 r1 hB1 (Nat.le_refl _) (by omega) (by omega) z.1.1 ((toF (List.replicate n 0) (toM pre)).getD z.1.1 0 + z.1.2))
    replace hst := Lib.hid hst
    replace t3 := Lib.hid t3
    clear hl hr b1 r1 hB1 q1 hlt
    gi_wp2
    rw [← List.getD_eq_getElem?_getD, t3.out]
    refine ⟨hpost.out.1, hpost.out.2.1.1, ?_⟩
    simp only [hst.out]
    exact hpost.out.2.2
  case done =>
    rintro D ys W hD hys ⟨⟨b1, r1⟩, hB1'⟩ hK
    rw [hys] at r1
    have d1 := b1.cell
    have hr2 := Lib.hid r1
    have hKh := Lib.hid hK
    clear b1 r1 hys hbV hbR hB0 hK
    go_wp2
    rw [rounds_succ]
    go_wp2
    refine ⟨by simp, .inl ⟨_, _, rfl, run_takeDeferred hKh.out, ?_⟩⟩
    refine ⟨.slice (some ⟨w.heap.size, 0, none⟩) n n, by simp [results, Try.results86, go_sem], _, rfl, ?_, ?_⟩
    · exact ownsRow_putObj hr2.out (.deferred none) hKh.out rfl
    · exact hB1'.trans (belowK_b (w := w) (Nat.le_refl _) W D _ _ (by omega) hKh.out rfl rfl)
  case stop =>
    rintro D c pre W _ _ h _
    exact h.elim
end Go.Proofs.Ytpmbenedeakieaa

namespace Go.Proofs.Ytpmbenedeakieaa
open Go.RowKit Go.Shelf
set_option maxRecDepth 100000

section
variable {P : List Int} {S : List (ByteArray × Int)} {l : Int} {F W : List Int} {m : Int} {k : Nat} {V : List Int}
/-- A record's cell is one of the table's, or -1; its amount is small. -/
theorem clI_bd (h : TgP P S l F W m) (c : ClP P S k V) : -1 ≤ clI P S l F W (k : Int) V ∧ clI P S l F W (k : Int) V < tcZ P S l F := by
  have h1 := tc_pos h
  by_cases ha : 0 ≤ anZ P k l ∧ tmB W V = true
  · rw [clp_yes ha.1 ha.2]
    obtain ⟨i, hi, -, hlt⟩ := fdI_mem (an_lv h.g c.a ha.1)
    obtain ⟨p0, p1⟩ := pt_ix (tbS_ok h.s h.r) (tbV_fit c.f h.r)
    unfold ceZ tcZ
    rw [hi]
    have e1 : ((i : Int) + 1) * cnZ (tbS S F) ≤ ((lvL P l).length : Int) * cnZ (tbS S F) := Int.mul_le_mul_of_nonneg_right (by omega) (by omega)
    have e2 : 0 ≤ (i : Int) * cnZ (tbS S F) := Int.mul_nonneg (by omega) (by omega)
    rw [Int.add_mul, Int.one_mul] at e1
    omega
  · rw [(clp_no (m := m) ha).1]
    omega
theorem clN_bd (h : TgP P S l F W m) (c : ClP P S k V) : -1000 ≤ clN P l W m (k : Int) V ∧ clN P l W m (k : Int) V ≤ 1000 := by
  by_cases ha : 0 ≤ anZ P k l ∧ tmB W V = true
  · by_cases hm : m < 0
    · rw [clp_one ha.1 ha.2 hm]
      omega
    · have h1 := h.m1
      have hlt : m.toNat < S.length := by omega
      have hV : m.toNat < V.length := by rw [fit_len c.f]; exact hlt
      obtain ⟨⟨nm, lv⟩, hp⟩ : ∃ p, S[m.toNat]? = some p := ⟨_, List.getElem?_eq_getElem hlt⟩
      rw [clp_val ha.1 ha.2 (by omega) (List.getElem?_eq_getElem hV)]
      have := fit_get c.f hp (List.getElem?_eq_getElem hV)
      have := schB_lv h.s hp
      omega
  · rw [(clp_no (S := S) (F := F) ha).2]
    omega
end
/-- Record j's cell and amount; what the first j records hand over; the table; whether there is one. -/
def toIx (P : List Int) (S : List (ByteArray × Int)) (l : Int) (F W : List Int) (M : List RV) (j : Nat) : Int := (M[j]?.map fun r => clI P S l F W r.1 r.2.2).getD (-1)
def toNx (P : List Int) (l : Int) (W : List Int) (m : Int) (M : List RV) (j : Nat) : Int := (M[j]?.map fun r => clN P l W m r.1 r.2.2).getD 0
def toP (P : List Int) (S : List (ByteArray × Int)) (l : Int) (F W : List Int) (m : Int) (M : List RV) : Nat → List (Nat × Int)
  | 0 => []
  | j + 1 => if toIx P S l F W M j = -1 then toP P S l F W m M j else toP P S l F W m M j ++ [((toIx P S l F W M j).toNat, toNx P l W m M j)]
def toB (P : List Int) (S : List (ByteArray × Int)) (l : Int) (F W : List Int) (m : Int) (M : List RV) : Bool := tgB P S l F W m && (dokB S M && tyB P M)
def toL (P : List Int) (S : List (ByteArray × Int)) (l : Int) (F W : List Int) (m : Int) (M : List RV) : List Int := eIf (toB P S l F W m M) (toF (List.replicate (tcZ P S l F).toNat 0) (toP P S l F W m M M.length))
section
variable {P : List Int} {S : List (ByteArray × Int)} {l : Int} {F W : List Int} {m : Int} {M : List RV} {j : Nat}
theorem toP_skip (h : toIx P S l F W M j = -1) : toP P S l F W m M (j + 1) = toP P S l F W m M j := if_pos h
theorem toP_take (h : toIx P S l F W M j ≠ -1) : toP P S l F W m M (j + 1) = toP P S l F W m M j ++ [((toIx P S l F W M j).toNat, toNx P l W m M j)] := if_neg h
theorem toIx_at {Q : List PR} {q : PR} (h : Q[j]? = some q) : toIx P S l F W (pM Q) j = clI P S l F W q.a q.L := by
  unfold toIx
  rw [pM_at h]
  rfl
theorem toNx_at {Q : List PR} {q : PR} (h : Q[j]? = some q) : toNx P l W m (pM Q) j = clN P l W m q.a q.L := by
  unfold toNx
  rw [pM_at h]
  rfl
theorem toP_len : ∀ j, (toP P S l F W m M j).length ≤ j
  | 0 => Nat.le_refl _
  | j + 1 => by
    have ih := toP_len j
    unfold toP
    split
    · omega
    · rw [List.length_append]
      simp only [List.length_cons, List.length_nil]
      omega
theorem to_no0 (h : toB P S l F W m M = false) : toL P S l F W m M = [] := eIf_f h
theorem to_no1 (h : tgB P S l F W m = false) : toB P S l F W m M = false := by unfold toB; rw [h]; rfl
theorem to_no2 (h : (dokB S M && tyB P M) = false) : toB P S l F W m M = false := by unfold toB; rw [h, Bool.and_false]
theorem to_yes (h : TgP P S l F W m) (h2 : (dokB S M && tyB P M) = true) : toB P S l F W m M = true ∧ toL P S l F W m M = toF (List.replicate (tcZ P S l F).toNat 0) (toP P S l F W m M M.length) := by
  have e : toB P S l F W m M = true := by unfold toB; rw [tg_iff.2 h, h2]; rfl
  exact ⟨e, eIf_t e⟩
theorem to_len : (toL P S l F W m M).length ≤ 1048576 := by
  cases h : toB P S l F W m M
  · rw [to_no0 h]; simp
  · have h0 := h
    unfold toB at h0
    simp only [Bool.and_eq_true] at h0
    have h1 := (tg_iff.1 h0.1).c
    unfold toL
    rw [eIf_t h, toF_len, List.length_replicate]
    omega
end
end Go.Proofs.Ytpmbenedeakieaa

namespace Go.Proofs.Ytpmbenedeakieaa
open Go.RowKit Go.Shelf
set_option maxRecDepth 100000
attribute [local go_sem] Oper.semAt_some

theorem toM_snoc {n : Nat} (pre : List (ToI n)) (x : ToI n) : toM (pre ++ [x]) = toM pre ++ [x.1] := by unfold toM; rw [List.map_append]; rfl
theorem toM_len {n : Nat} (pre : List (ToI n)) : (toM pre).length = pre.length := List.length_map _
set_option maxHeartbeats 4000000 in
/-- What a survey's records count, handed to a loop's body one after the other. -/
theorem co_in (n : Nat) (hn : 1 ≤ n) (Y Bl Bg : Nat) (p x z ga va v : Option Addr) (c c2 c3 ca cv c4 : Nat) (P : List Int) (S : List (ByteArray × Int)) (l : Int) (F W : List Int) (m : Int) (Q : List PR) (w : World) (htg : TgP P S l F W m) (hdk : dokB S (pM Q) = true) (hty : tyB P (pM Q) = true)
    (hG : G7 w Bg (.slice p P.length c) (.int .i64 l) (.slice x F.length c2) (.slice z W.length c3) (.int .i64 m) (.slice ga (lvL P l).length ca) (.slice va (tbS S F).length cv)) (hL : Boxed w Bl 57 (.slice v Q.length c4))
    (hP : IIn w p P) (hF : IIn w x F) (hW : IIn w z W) (hA : IIn w ga (lvL P l)) (hT : Rd w va (vC (tbS S F))) (hQ : DIn w v Q) (J Jx : List (ToI (tcZ P S l F).toNat) → World → Prop)
    (V : World) (hJa : AbidesFrom V.heap.size J)
    (hY : ∀ pre y W1, J pre W1 → pre.length < 41 → YieldAt Fence.wide (n - 1) Try.prog Y #[.int .i64 (y.1.1 : Int), .int .i64 y.1.2] W1 fun e W' =>
      (e = .returned (.bool true) ∧ J (pre ++ [y]) W' ∧ Below w.heap.size W1 W') ∨ (e = .returned (.bool false) ∧ Jx (pre ++ [y]) W'))
    (hB : Below w.heap.size w V) (h0 : J [] V) :
    CallsIn Fence.wide n Try.prog 133 #[.func (.yield Y) #[] #[], .pointer (some ⟨Bl, 0, none⟩), .pointer (some ⟨Bg, 0, none⟩)] V fun e W' => (∃ v, e = .returned v) ∧
      ((∃ ys : List (ToI (tcZ P S l F).toNat), toM ys = toP P S l F W m (pM Q) Q.length ∧ J ys W') ∨ (∃ pre : List (ToI (tcZ P S l F).toNat), True ∧ Jx pre W')) := by
  have hth := Lib.hid htg
  have hdkh := Lib.hid hdk
  have htyh := Lib.hid hty
  have hPh := Lib.hid hP
  have hFh := Lib.hid hF
  have hWh := Lib.hid hW
  have hAh := Lib.hid hA
  have hTh := Lib.hid hT
  have hQh := Lib.hid hQ
  have hGh := Lib.hid hG
  have hLh := Lib.hid hL
  have hJh := Lib.hid hJa
  have hYh := Lib.hid hY
  have hQ40 : Q.length ≤ 40 := by have := dokB_len hdk; rwa [pM_len] at this
  clear htg hdk hty hP hF hW hA hT hQ hG hJa hY
  have cL := (boxed_below hL hB).cell
  clear hL
  refine callsIn_of_wp Try.func133 rfl trivial ?_ rfl
  simp only [Try.ntmps133, List.size_toArray, List.length_cons, List.length_nil, Nat.reduceAdd, Nat.reduceSub, Array.replicate_succ, Array.replicate_zero, List.push_toArray, List.append_toArray, List.nil_append, List.cons_append]
  gi_wp2
  clear cL
  gi_loopw [10] (fun i wr => ∃ (j : Nat) (pre : List (ToI (tcZ P S l F).toNat)), j ≤ Q.length ∧ i = .int .i64 j ∧ Hid (toM pre = toP P S l F W m (pM Q) j) ∧ J pre wr ∧ Below w.heap.size w wr ∧ V.heap.size ≤ wr.heap.size)
    (fun i _ => Q.length - (intOf i).toNat)
  case atStart => exact ⟨0, [], by omega, by go_num, rfl, h0, hB, Nat.le_refl _⟩
  case round =>
    clear h0 hB
    obtain ⟨j, pre, hj, rfl, hpre, hJ, hb, hVr⟩ := hrel
    by_cases hlt : j < Q.length
    · obtain ⟨bl, off, q, rfl, hbl, hQj, hc0, hc1, hc2⟩ := (hQh.out.2.2.below hb).rec hlt
      obtain ⟨k, hka, hcl⟩ := sv_cl hdkh.out htyh.out hQj
      have hqr := Lib.hid ((hQh.out.2.1 q (List.mem_of_getElem? hQj)).2.2.below hb)
      have hix := toIx_at (P := P) (S := S) (l := l) (F := F) (W := W) hQj
      have hnx := toNx_at (P := P) (l := l) (W := W) (m := m) hQj
      have hclh := Lib.hid hcl
      obtain ⟨qa, qh, qx, qc, qL⟩ := q
      have hka : qa = (k : Int) := hka
      subst hka
      have hlt' : (j : Int) < (Q.length : Int) := by omega
      have bd1 := clI_bd hth.out hcl
      have bd2 := clN_bd hth.out hcl
      replace hQj := Lib.hid hQj
      have hix : toIx P S l F W (pM Q) j = clI P S l F W (k : Int) qL := hix
      have hnx : toNx P l W m (pM Q) j = clN P l W m (k : Int) qL := hnx
      replace hix := Lib.hid hix
      replace hnx := Lib.hid hnx
      have hc2 : wr.cell? ⟨bl, off + j * 3 + 2, none⟩ = some (.slice qx qL.length qc) := hc2
      have BA : Below wr.heap.size wr (wr.alloc (.cells #[.int .i64 (k : Int), .int .i64 qh, .slice qx qL.length qc] 85)) := (by repeat (first | exact Below.refl _ _ | assumption | refine Below.drew ?_ | refine below_drewN ?_ _ | refine Below.alloc' ?_ _ | (refine Below.setCell ?_ (by first | omega | (simp; done) | (simp; omega) | exact Below.size (by assumption) | exact Nat.le_trans (Below.size (by assumption)) (by simp)) _) | (refine Below.via' ?_ (by assumption)) | (refine Below.alloc ?_ (by first | omega | (simp; done) | (simp; omega) | exact Below.size (by assumption) | exact Nat.le_trans (Below.size (by assumption)) (by simp)) _) | (refine Below.via ?_ (by assumption) (by first | omega | (simp; done) | (simp; omega) | exact Below.size (by assumption) | exact Nat.le_trans (Below.size (by assumption)) (by simp)))))
      obtain ⟨WA, hWA⟩ : ∃ WA, WA = wr.alloc (.cells #[.int .i64 (k : Int), .int .i64 qh, .slice qx qL.length qc] 85) := ⟨_, rfl⟩
      have hqn := RB.new wr k qh qx qL.length qc 85
      rw [← hWA] at BA hqn
      have hqn := Lib.hid hqn
      have BwA : Below w.heap.size w WA := Below.via' hb BA
      have J2 := Lib.hid (hJh.out _ _ _ none hJ (grown_belowE BA) (by intro r hr; cases hr))
      have hVA := Nat.le_trans hVr BA.size
      have hpl : pre.length ≤ j := by rw [← toM_len, hpre.out]; exact toP_len j
      replace hWA := Lib.hid hWA
      clear hcl hJ
      have FF := And.intro (hGh.out.below BwA) hqn.out
      rw [hWA.out] at FF
      obtain ⟨⟨j0, j1, j2, j3, j4, j5, j6, jl⟩, ⟨ra, rb, rc, rd⟩⟩ := FF
      gi_wp2_with fail
      refine ⟨trivial, ?_⟩
      rw [← hWA.out]
      refine (callsIn_wide.2 (contrib_any _ _ _ _ _ _ _ _ _ _ _ _ P S l F W m k qh qL _ hth.out hclh.out (hPh.out.below BwA) (hFh.out.below BwA) (hWh.out.below BwA) (hAh.out.below BwA) (hTh.out.below BwA) (hqr.out.below BA))).mono ?_
      rintro e w2 ⟨rfl, hb2⟩
      have J3 := hJh.out _ _ _ none J2.out (grown_belowE hb2) (by intro r hr; cases hr)
      have B2 : Below w.heap.size w w2 := Below.via' BwA hb2
      have hV2 := Nat.le_trans hVA hb2.size
      clear j0 j1 j2 j3 j4 j5 j6 jl ra rb rc rd hc0 hc1 hc2 J2 hb2 hb
      by_cases hci : clI P S l F W (k : Int) qL = -1
      · have ht : (clI P S l F W (k : Int) qL != -1) = false := by rw [hci]; rfl
        have hst := Lib.hid (toP_skip (P := P) (S := S) (l := l) (F := F) (W := W) (m := m) (M := pM Q) (j := j) (by rw [hix.out]; exact hci))
        have hJ3h := Lib.hid J3
        replace hci := Lib.hid hci
        clear J3
        gi_wp2
        refine ⟨(fun f h => by cases h), ?_⟩
        gi_wp2
        go_roundw
        case rel => exact ⟨j + 1, pre, by omega, by go_num, (by unfold Hid; rw [hst.out, hpre.out]), hJ3h.out, B2, hV2⟩
        case measure => simp [intOf]; omega
      · have ht : (clI P S l F W (k : Int) qL != -1) = true := by rw [bne_iff_ne]; exact hci
        have hst := Lib.hid (toP_take (P := P) (S := S) (l := l) (F := F) (W := W) (m := m) (M := pM Q) (j := j) (by rw [hix.out]; exact hci))
        obtain ⟨fn, tmps, assign, body, hy, hR⟩ := hYh.out pre ⟨((clI P S l F W (k : Int) qL).toNat, clN P l W m (k : Int) qL), by omega, bd2⟩ w2 J3 (by omega)
        try dsimp only at hy
        have hcn : ((clI P S l F W (k : Int) qL).toNat : Int) = clI P S l F W (k : Int) qL := by omega
        rw [hcn] at hy
        clear J3
        gi_wp2
        refine hR.mono ?_
        rintro e W3 (⟨rfl, hJ4, hk4⟩ | ⟨rfl, hJx4⟩)
        · gi_wp2
          go_roundw
          case rel => exact ⟨j + 1, _, by omega, by go_num, (by unfold Hid; rw [hst.out, toM_snoc, hpre.out, hix.out, hnx.out]), hJ4, B2.trans hk4, Nat.le_trans hV2 hk4.size⟩
          case measure => simp [intOf]; omega
        · gi_wp2
          refine bodyPost_ret (results_none rfl _ _ _) rfl ?_
          exact ⟨⟨_, rfl⟩, .inr ⟨_, trivial, hJx4⟩⟩
    · have hij : j = Q.length := by omega
      subst hij
      gi_wp2
      go_end0
      exact ⟨⟨_, rfl⟩, .inl ⟨pre, hpre.out, hJ⟩⟩
end Go.Proofs.Ytpmbenedeakieaa

namespace Go.Proofs.Ytpmbenedeakieaa
open Go.RowKit Go.Shelf
set_option maxRecDepth 100000
attribute [local go_sem] Oper.semAt_some

theorem co_facts (w : World) (t1 t2 : TypeId) (a0 a1 a2 a3 a4 a5 a6 v : Value) : G7 ((w.alloc (.cells #[a0, a1, a2, a3, a4, a5, a6] t1)).alloc (.cells #[v] t2)) w.heap.size a0 a1 a2 a3 a4 a5 a6 ∧ Boxed ((w.alloc (.cells #[a0, a1, a2, a3, a4, a5, a6] t1)).alloc (.cells #[v] t2)) (w.heap.size + 1) t2 v := by
  refine ⟨(g7_of_wb (Wb.new w t1 #[a0, a1, a2, a3, a4, a5, a6])).below (Below.alloc' (Below.refl _ _) _), ?_⟩
  have := Boxed.new (w.alloc (.cells #[a0, a1, a2, a3, a4, a5, a6] t1)) t2 v
  rwa [World.size_alloc] at this
theorem co_any (p x z ga va v : Option Addr) (c c2 c3 ca cv c4 n : Nat) (P : List Int) (S : List (ByteArray × Int)) (l : Int) (F W : List Int) (m : Int) (w : World) :
    Calls Try.prog 87 #[.agg #[.slice p P.length c, .int .i64 l, .slice x F.length c2, .slice z W.length c3, .int .i64 m, .slice ga (lvL P l).length ca, .slice va (tbS S F).length cv], .slice v n c4] w fun e w' => e = .returned (.func (.func 133) #[] #[.pointer (some ⟨w.heap.size + 1, 0, none⟩), .pointer (some ⟨w.heap.size, 0, none⟩)]) ∧
      Below w.heap.size w w' ∧ w'.heap.size = w.heap.size + 1 + 1 ∧ G7 w' w.heap.size (.slice p P.length c) (.int .i64 l) (.slice x F.length c2) (.slice z W.length c3) (.int .i64 m) (.slice ga (lvL P l).length ca) (.slice va (tbS S F).length cv) ∧ Boxed w' (w.heap.size + 1) 57 (.slice v n c4) := by
  go_enter Try.func87, Try.ntmps87
  go_wp2
  go_ret
  exact ⟨by simp, (by repeat (first | exact Below.refl _ _ | assumption | refine Below.drew ?_ | refine below_drewN ?_ _ | refine Below.alloc' ?_ _ | (refine Below.setCell ?_ (by first | omega | (simp; done) | (simp; omega) | exact Below.size (by assumption) | exact Nat.le_trans (Below.size (by assumption)) (by simp)) _) | (refine Below.via' ?_ (by assumption)) | (refine Below.alloc ?_ (by first | omega | (simp; done) | (simp; omega) | exact Below.size (by assumption) | exact Nat.le_trans (Below.size (by assumption)) (by simp)) _) | (refine Below.via ?_ (by assumption) (by first | omega | (simp; done) | (simp; omega) | exact Below.size (by assumption) | exact Nat.le_trans (Below.size (by assumption)) (by simp))))), by simp, co_facts _ _ _ _ _ _ _ _ _ _ _⟩
theorem co_stops (Bl Bg : Nat) (p x z ga va v : Option Addr) (c c2 c3 ca cv c4 : Nat) (P : List Int) (S : List (ByteArray × Int)) (l : Int) (F W : List Int) (m : Int) (Q : List PR) (w : World) (htg : TgP P S l F W m) (hdk : dokB S (pM Q) = true) (hty : tyB P (pM Q) = true)
    (hG : G7 w Bg (.slice p P.length c) (.int .i64 l) (.slice x F.length c2) (.slice z W.length c3) (.int .i64 m) (.slice ga (lvL P l).length ca) (.slice va (tbS S F).length cv)) (hL : Boxed w Bl 57 (.slice v Q.length c4))
    (hP : IIn w p P) (hF : IIn w x F) (hW : IIn w z W) (hA : IIn w ga (lvL P l)) (hT : Rd w va (vC (tbS S F))) (hQ : DIn w v Q) (W0 : World) (hW0 : Below w.heap.size w W0) :
    SeqStopsK Fence.wide 4 Try.prog 133 #[.pointer (some ⟨Bl, 0, none⟩), .pointer (some ⟨Bg, 0, none⟩)] (fun x : ToI (tcZ P S l F).toNat => #[.int .i64 (x.1.1 : Int), .int .i64 x.1.2]) (fun X Y => Below w.heap.size X Y) (fun ys => toM ys = toP P S l F W m (pM Q) Q.length) (fun _ => True) 41 W0 := fun Y J Jx V hV hA' _ hY h0 =>
  co_in 4 (by omega) Y Bl Bg p x z ga va v c c2 c3 ca cv c4 P S l F W m Q w htg hdk hty hG hL hP hF hW hA hT hQ J Jx V hA' hY (hW0.trans (hV.mono hW0.size)) h0
end Go.Proofs.Ytpmbenedeakieaa

namespace Go.Proofs.Ytpmbenedeakieaa
open Go.RowKit Go.Shelf
set_option maxRecDepth 100000
attribute [local go_sem] Oper.semAt_some

set_option maxHeartbeats 16000000 in
theorem iTO_x (p y x z v : Option Addr) (c c1 c2 c3 c4 : Nat) (P : List Int) (S : List (ByteArray × Int)) (l : Int) (F W : List Int) (m : Int) (Q : List PR) (w : World) (hP : IIn w p P) (hS : SIn w y c1 S) (hT : TIn w x z F W) (hQ : DIn w v Q) :
    Calls Try.prog 35 #[.agg #[.slice p P.length c], .slice y S.length c1, .agg #[.int .i64 l, .slice x F.length c2, .slice z W.length c3, .int .i64 m], .slice v Q.length c4] w (RetLB (toL P S l F W m (pM Q)) (toB P S l F W m (pM Q)) w) := by
  obtain ⟨i0, hii, hz0, hz1, hz2⟩ := info_parts Try.infoInt
  have hQh := Lib.hid hQ
  have hQl := hQ.1
  clear hQ
  have hPh := Lib.hid hP
  have hSh := Lib.hid hS
  have hFh := Lib.hid hT.1
  have hWh := Lib.hid hT.2
  clear hP hS hT
  have p1 := Lib.hid (QB.new w p P.length c 33)
  have p2 := Lib.hid (TQ.new (w.alloc (.cells #[.slice p P.length c] 33)) l x F.length c2 z W.length c3 m 37)
  obtain ⟨w0, hw0⟩ : ∃ w0, w0 = (w.alloc (.cells #[.slice p P.length c] 33)).alloc (.cells #[.int .i64 l, .slice x F.length c2, .slice z W.length c3, .int .i64 m] 37) := ⟨_, rfl⟩
  have B0 : Below w.heap.size w w0 := by rw [hw0]; exact (by repeat (first | exact Below.refl _ _ | assumption | refine Below.drew ?_ | refine below_drewN ?_ _ | refine Below.alloc' ?_ _ | (refine Below.setCell ?_ (by first | omega | (simp; done) | (simp; omega) | exact Below.size (by assumption) | exact Nat.le_trans (Below.size (by assumption)) (by simp)) _) | (refine Below.via' ?_ (by assumption)) | (refine Below.alloc ?_ (by first | omega | (simp; done) | (simp; omega) | exact Below.size (by assumption) | exact Nat.le_trans (Below.size (by assumption)) (by simp)) _) | (refine Below.via ?_ (by assumption) (by first | omega | (simp; done) | (simp; omega) | exact Below.size (by assumption) | exact Nat.le_trans (Below.size (by assumption)) (by simp)))))
  have g0 : Hid (QB w0 w.heap.size p P.length c) := by
    rw [hw0]
    exact p1.out.below (show Below (w.alloc (.cells #[.slice p P.length c] 33)).heap.size (w.alloc (.cells #[.slice p P.length c] 33)) _ from (by repeat (first | exact Below.refl _ _ | assumption | refine Below.drew ?_ | refine below_drewN ?_ _ | refine Below.alloc' ?_ _ | (refine Below.setCell ?_ (by first | omega | (simp; done) | (simp; omega) | exact Below.size (by assumption) | exact Nat.le_trans (Below.size (by assumption)) (by simp)) _) | (refine Below.via' ?_ (by assumption)) | (refine Below.alloc ?_ (by first | omega | (simp; done) | (simp; omega) | exact Below.size (by assumption) | exact Nat.le_trans (Below.size (by assumption)) (by simp)) _) | (refine Below.via ?_ (by assumption) (by first | omega | (simp; done) | (simp; omega) | exact Below.size (by assumption) | exact Nat.le_trans (Below.size (by assumption)) (by simp))))))
  have t0 : Hid (TQ w0 (w.heap.size + 1) l x F.length c2 z W.length c3 m) := by
    have h0 := p2.out
    rw [World.size_alloc, ← hw0] at h0
    exact h0
  have z0 : w0.heap.size = w.heap.size + 1 + 1 := by rw [hw0]; simp
  clear p1 p2
  go_enter Try.func35, Try.ntmps35
  go_wp2_with fail
  rw [← hw0]
  replace hw0 := Lib.hid hw0
  replace z0 := Lib.hid z0
  refine (gridOf_any p y x z _ _ _ _ P S l m F W _ (hPh.out.below B0) (hSh.out.below B0) ⟨hFh.out.below B0, hWh.out.below B0⟩).mono ?_
  rintro e w1 ⟨hb1, h1⟩
  have B1 : Below w.heap.size w w1 := Below.via' B0 hb1
  have g1 := Lib.hid (g0.out.below hb1)
  have t1 := Lib.hid (t0.out.below hb1)
  obtain ⟨ka1, kb1, kc1⟩ := g1.out
  obtain ⟨ta1, tb1, tc1, td1, te1⟩ := t1.out
  try clear ka0 kb0 kc0 ta0 tb0 tc0 td0 te0
  clear hb1
  rcases h1 with ⟨hno, rfl⟩ | ⟨htg, ga, ca, va, rfl, hA, hV, hvl⟩
  · have hv := Lib.hid (to_no1 (M := pM Q) (tg_no hno))
    clear hno
    go_wp2
    go_ret2
    exact riLB_no (to_no0 hv.out) hv.out (by repeat (first | exact Below.refl _ _ | assumption | refine Below.drew ?_ | refine below_drewN ?_ _ | refine Below.alloc' ?_ _ | (refine Below.setCell ?_ (by first | omega | (simp; done) | (simp; omega) | exact Below.size (by assumption) | exact Nat.le_trans (Below.size (by assumption)) (by simp)) _) | (refine Below.via' ?_ (by assumption)) | (refine Below.alloc ?_ (by first | omega | (simp; done) | (simp; omega) | exact Below.size (by assumption) | exact Nat.le_trans (Below.size (by assumption)) (by simp)) _) | (refine Below.via ?_ (by assumption) (by first | omega | (simp; done) | (simp; omega) | exact Below.size (by assumption) | exact Nat.le_trans (Below.size (by assumption)) (by simp)))))
  have hpt := Lib.hid (tbS_ok htg.s htg.r)
  have hth := Lib.hid htg
  have hl30 := (ge_len htg.g).2
  have hl := lvL_len P l
  have hAh := Lib.hid hA
  have hPt := Lib.hid hV
  clear htg hA hV
  obtain ⟨W2, hW2⟩ : ∃ W2, W2 = w1.alloc (.cells #[.slice p P.length c, .int .i64 l, .slice x F.length c2, .slice z W.length c3, .int .i64 m, .slice ga (lvL P l).length ca, .slice (some ⟨va, 0, none⟩) (tbS S F).length (tbS S F).length] 104) := ⟨_, rfl⟩
  have hG := g7_of_wb (Wb.new w1 104 #[.slice p P.length c, .int .i64 l, .slice x F.length c2, .slice z W.length c3, .int .i64 m, .slice ga (lvL P l).length ca, .slice (some ⟨va, 0, none⟩) (tbS S F).length (tbS S F).length])
  rw [← hW2] at hG
  have BW : Below w1.heap.size w1 W2 := by rw [hW2]; exact Below.alloc' (Below.refl _ _) _
  have BW2 : Below w.heap.size w W2 := Below.via' B1 BW
  replace hG := Lib.hid hG
  replace hW2 := Lib.hid hW2
  obtain ⟨ka2, kb2, kc2⟩ := g1.out.below BW
  go_wp2_with fail
  rw [← hW2.out]
  refine (isSurveyFor_any _ _ _ _ _ _ P S Q _ hth.out.g hth.out.s (hPh.out.below BW2) (hSh.out.below BW2) (hQh.out.below BW2)).mono ?_
  rintro e w3 ⟨rfl, hb3⟩
  have B13 := Below.via' BW hb3
  have B3 := Below.via' B1 B13
  obtain ⟨j0, j1, j2, j3, j4, j5, j6, jl⟩ := hG.out.below hb3
  have hG3 := Lib.hid (hG.out.below hb3)
  clear ka2 kb2 kc2 hb3
  cases hsv : (dokB S (pM Q) && tyB P (pM Q))
  · have hv := Lib.hid (to_no2 (l := l) (F := F) (W := W) (m := m) hsv)
    go_wp2
    go_ret2
    exact riLB_no (to_no0 hv.out) hv.out B3
  have hsv2 := hsv
  rw [Bool.and_eq_true] at hsv2
  have hdk := Lib.hid hsv2.1
  have hty := Lib.hid hsv2.2
  clear hsv2
  have hsvh := Lib.hid hsv
  have hQ40 : Q.length ≤ 40 := by have := dokB_len hdk.out; rwa [pM_len] at this
  clear hsv
  have hv := Lib.hid (to_yes hth.out hsvh.out)
  go_wp2
  refine wp_region_held_drew (S := fun X => Below w3.heap.size w3 X) (by kernel_rfl) (Below.drew (Below.refl _ _)) (fun hH => ?_)
  refine wpAnyH_take (i := 0) (v := ?_) rfl (by kernel_rfl) (by kernel_rfl) (by kernel_rfl) (fun _ _ _ h => h) (Or.inl ⟨by rfl, ?_⟩) (by assumption) ?_; rotate_left; · (intro wz hz; (have f0 := (hz.cell (p := ⟨w1.heap.size, 0, none⟩) jl).trans j0; have f1 := (hz.cell (p := ⟨w1.heap.size, 1, none⟩) jl).trans j1; have f2 := (hz.cell (p := ⟨w1.heap.size, 2, none⟩) jl).trans j2; have f3 := (hz.cell (p := ⟨w1.heap.size, 3, none⟩) jl).trans j3; have f4 := (hz.cell (p := ⟨w1.heap.size, 4, none⟩) jl).trans j4; have f5 := (hz.cell (p := ⟨w1.heap.size, 5, none⟩) jl).trans j5; have f6 := (hz.cell (p := ⟨w1.heap.size, 6, none⟩) jl).trans j6); clear hz; go_simp; try with_reducible rfl); (try simp only [Act.put, List.getElem_toArray, List.getElem_cons_succ, List.getElem_cons_zero, List.setIfInBounds_toArray, List.set_cons_zero, List.set_cons_succ])
  refine wpAnyH_take (i := 2) (v := ?_) rfl (by kernel_rfl) (by kernel_rfl) (by kernel_rfl) (fun _ _ _ h => h) (Or.inl ⟨by rfl, ?_⟩) (by assumption) ?_; rotate_left; · (intro wz hz; (have f0 := (hz.cell (p := ⟨w1.heap.size, 0, none⟩) jl).trans j0; have f1 := (hz.cell (p := ⟨w1.heap.size, 1, none⟩) jl).trans j1; have f2 := (hz.cell (p := ⟨w1.heap.size, 2, none⟩) jl).trans j2; have f3 := (hz.cell (p := ⟨w1.heap.size, 3, none⟩) jl).trans j3; have f4 := (hz.cell (p := ⟨w1.heap.size, 4, none⟩) jl).trans j4; have f5 := (hz.cell (p := ⟨w1.heap.size, 5, none⟩) jl).trans j5; have f6 := (hz.cell (p := ⟨w1.heap.size, 6, none⟩) jl).trans j6); clear hz; go_simp; try with_reducible rfl); (try simp only [Act.put, List.getElem_toArray, List.getElem_cons_succ, List.getElem_cons_zero, List.setIfInBounds_toArray, List.set_cons_zero, List.set_cons_succ])
  refine wpAnyH_take (i := 3) (v := ?_) rfl (by kernel_rfl) (by kernel_rfl) (by kernel_rfl) (fun _ _ _ h => h) (Or.inl ⟨by rfl, ?_⟩) (by assumption) ?_; rotate_left; · (intro wz hz; (skip); clear hz; go_simp; try with_reducible rfl); (try simp only [Act.put, List.getElem_toArray, List.getElem_cons_succ, List.getElem_cons_zero, List.setIfInBounds_toArray, List.set_cons_zero, List.set_cons_succ])
  refine wpAnyH_ready (rs := [1]) (by kernel_rfl) (by simp) (AllReadyH.cons rfl (fun K hK => ?_) AllReadyH.nil); go_simp
  refine (gcount_any _ _ _ _ _ _ _ _ _ _ _ _ _ _ _ (lvL P l) (tbS S F) _ hpt.out (by omega) (hPt.out.below (Below.via' B13 hH))).mono ?_; rintro e x1 ⟨rfl, hy1⟩; refine hK.out _ _ (Below.via' hH hy1) (fun h1 => ?_); clear hK K; (try simp only [Act.put, List.getElem_toArray, List.getElem_cons_succ, List.getElem_cons_zero, List.setIfInBounds_toArray, List.set_cons_zero, List.set_cons_succ])
  refine wpAnyH_ready (rs := [4]) (by kernel_rfl) (by simp) (AllReadyH.cons rfl (fun K hK => ?_) AllReadyH.nil); go_simp
  refine (co_any _ _ _ _ _ _ _ _ _ _ _ _ _ P S l F W m _).mono ?_; rintro e x2 ⟨rfl, hy2, hy3, hy4, hy5⟩; refine hK.out _ _ (Below.via' h1 hy2) (fun h2 => ?_); clear hK K; (try simp only [Act.put, List.getElem_toArray, List.getElem_cons_succ, List.getElem_cons_zero, List.setIfInBounds_toArray, List.set_cons_zero, List.set_cons_succ])
  refine wpAnyH_ready (rs := [5]) (by kernel_rfl) (by simp) (AllReadyH.cons rfl (fun K hK => ?_) AllReadyH.nil); go_simp
  refine hK.out _ _ (Below.alloc' h2 _) (fun h5 => ?_); clear hK K; (try simp only [Act.put, List.getElem_toArray, List.getElem_cons_succ, List.getElem_cons_zero, List.setIfInBounds_toArray, List.set_cons_zero, List.set_cons_succ])
  refine wpAnyH_ready (rs := [6]) (by kernel_rfl) (by simp) (AllReadyH.cons rfl (fun K hK => ?_) AllReadyH.nil); go_simp
  have hcn : ((lvL P l).length : Int) * cnZ (tbS S F) = (((tcZ P S l F).toNat : Nat) : Int) := by
    have h0 := (pt_cn hpt.out)
    have h1 : 0 ≤ tcZ P S l F := Int.mul_nonneg (by omega) (by omega)
    rw [Int.toNat_of_nonneg h1]
    rfl
  rw [hcn]
  replace hcn := Lib.hid hcn
  have hn6 : (tcZ P S l F).toNat ≤ 600 := by have := hth.out.c; omega
  obtain ⟨X, hX⟩ : ∃ X, X = x2.alloc (.cells #[.func (.func 133) #[] #[.pointer (some ⟨x1.heap.size + 1, 0, none⟩), .pointer (some ⟨x1.heap.size, 0, none⟩)]] 120) := ⟨_, rfl⟩
  have BX : Below x2.heap.size x2 X := by rw [hX]; exact Below.alloc' (Below.refl _ _) _
  have bX : Boxed X x2.heap.size 120 (.func (.func 133) #[] #[.pointer (some ⟨x1.heap.size + 1, 0, none⟩), .pointer (some ⟨x1.heap.size, 0, none⟩)]) := by rw [hX]; exact Boxed.new x2 _ _
  rw [← hX]
  rw [← hX] at h5
  replace hX := Lib.hid hX
  have hB5 := Below.via' B3 h5
  have hB15 := Below.via' B13 h5
  have hGX := Lib.hid (hy4.below BX)
  have hLX : Boxed X (x1.heap.size + 1) 57 (.slice v Q.length c4) := by rw [hX.out]; exact hy5.alloc _
  replace hLX := Lib.hid hLX
  have hgX : x1.heap.size + 1 + 1 < X.heap.size := by rw [← hy3]; exact bX.lt
  have hcX : X.cell? ⟨x1.heap.size + 1 + 1, 0, none⟩ = some (.func (.func 133) #[] #[.pointer (some ⟨x1.heap.size + 1, 0, none⟩), .pointer (some ⟨x1.heap.size, 0, none⟩)]) := by rw [← hy3]; exact bX.cell
  refine (sumsOne_any 133 #[.pointer (some ⟨x1.heap.size + 1, 0, none⟩), .pointer (some ⟨x1.heap.size, 0, none⟩)] (x1.heap.size + 1 + 1) (tcZ P S l F).toNat 41 (toP P S l F W m (pM Q) Q.length) _ hn6 (by omega) (enters_of Try.func133 (by kernel_rfl) rfl)
    (fun W0 hW0 => co_stops (x1.heap.size + 1) x1.heap.size p x z ga (some ⟨va, 0, none⟩) v c c2 c3 ca (tbS S F).length c4 P S l F W m Q X hth.out hdk.out hty.out hGX.out hLX.out (hPh.out.below hB5) (hFh.out.below hB5) (hWh.out.below hB5) (hAh.out.below hB15) (hPt.out.below hB15) (hQh.out.below hB5) W0 hW0) hgX hcX).mono ?_
  rintro e x6 ⟨u, rfl, ho, hb6⟩
  have B6 := Below.via' h5 hb6
  have ho := Lib.hid (own_more ho hB5.size)
  refine hK.out _ _ B6 (fun hS => ?_)
  clear hK K
  (try simp only [Act.put, List.getElem_toArray, List.getElem_cons_succ, List.getElem_cons_zero, List.setIfInBounds_toArray, List.set_cons_zero, List.set_cons_succ])
  refine wpAnyH_ready (rs := [7]) (by kernel_rfl) (by simp) (AllReadyH.cons rfl (fun K hK => ?_) AllReadyH.nil); go_simp
  refine hK.out _ _ B6 (fun hS => ?_)
  clear hK K
  (try simp only [Act.put, List.getElem_toArray, List.getElem_cons_succ, List.getElem_cons_zero, List.setIfInBounds_toArray, List.set_cons_zero, List.set_cons_succ])
  refine wpAnyH_ready (rs := [8]) (by kernel_rfl) (by simp) (AllReadyH.cons rfl (fun K hK => ?_) AllReadyH.nil); go_simp
  refine hK.out _ _ B6 (fun hS => ?_)
  clear hK K
  (try simp only [Act.put, List.getElem_toArray, List.getElem_cons_succ, List.getElem_cons_zero, List.setIfInBounds_toArray, List.set_cons_zero, List.set_cons_succ])
  refine wpAnyH_done (by kernel_rfl) ?_ _
  go_wp2_with fail
  go_ret2
  rw [hv.out.1, hv.out.2]
  refine ⟨_, rfl, ?_, Below.via' B3 B6⟩
  have hlen : (toF (List.replicate (tcZ P S l F).toNat 0) (toP P S l F W m (pM Q) (pM Q).length)).length = (tcZ P S l F).toNat := by rw [toF_len, List.length_replicate]
  rw [hlen, pM_len]
  exact ho.out
end Go.Proofs.Ytpmbenedeakieaa

namespace Go.Proofs.Ytpmbenedeakieaa
open Go.RowKit Go.Shelf
set_option maxRecDepth 100000

theorem toF_bdR (k : Nat) (ps : List (Nat × Int)) : (∀ p ∈ ps, -1000 ≤ p.2 ∧ p.2 ≤ 1000) → ∀ j, -1000 * (ps.length : Int) ≤ (toF (List.replicate k 0) ps).getD j 0 ∧ (toF (List.replicate k 0) ps).getD j 0 ≤ 1000 * (ps.length : Int) := by
  refine rev_ind (P := fun ps => (∀ p ∈ ps, -1000 ≤ p.2 ∧ p.2 ≤ 1000) → ∀ j, -1000 * (ps.length : Int) ≤ (toF (List.replicate k 0) ps).getD j 0 ∧ (toF (List.replicate k 0) ps).getD j 0 ≤ 1000 * (ps.length : Int)) (fun _ j => ?_) (fun r x ih hb j => ?_) ps
  · have e : (List.replicate k (0 : Int)).getD j 0 = 0 := by
      rw [List.getD_eq_getElem?_getD, List.getElem?_replicate]
      split <;> rfl
    show _ ≤ (List.replicate k (0 : Int)).getD j 0 ∧ (List.replicate k (0 : Int)).getD j 0 ≤ _
    rw [e]
    simp
  · rw [toF_snoc, List.getD_eq_getElem?_getD, List.getElem?_set]
    have hr := ih (fun p hp => hb p (List.mem_append_left _ hp))
    have h1 := hr j
    have h2 := hr x.1
    have h3 := hb x (List.mem_append_right _ (by simp))
    simp only [List.length_append, List.length_cons, List.length_nil]
    split
    · split
      · simp only [Option.getD_some]
        omega
      · simp only [Option.getD_none]
        omega
    · rw [← List.getD_eq_getElem?_getD]
      omega
theorem toP_bd {P : List Int} {S : List (ByteArray × Int)} {l : Int} {F W : List Int} {m : Int} {Q : List PR} (htg : TgP P S l F W m) (hdk : dokB S (pM Q) = true) (hty : tyB P (pM Q) = true) : ∀ j, j ≤ Q.length → ∀ p ∈ toP P S l F W m (pM Q) j, -1000 ≤ p.2 ∧ p.2 ≤ 1000
  | 0, _, p, hp => by cases hp
  | j + 1, hj, p, hp => by
    have ih := toP_bd htg hdk hty j (by omega)
    by_cases h : toIx P S l F W (pM Q) j = -1
    · rw [toP_skip h] at hp
      exact ih p hp
    · rw [toP_take h] at hp
      rcases List.mem_append.1 hp with hp | hp
      · exact ih p hp
      · obtain rfl := List.mem_singleton.1 hp
        have hq : Q[j]? = some Q[j] := List.getElem?_eq_getElem (by omega)
        obtain ⟨k, hka, hcl⟩ := sv_cl hdk hty hq
        show -1000 ≤ toNx P l W m (pM Q) j ∧ toNx P l W m (pM Q) j ≤ 1000
        rw [toNx_at hq, hka]
        exact clN_bd htg hcl
set_option maxHeartbeats 8000000 in
theorem uTable_any (p y x z v : Option Addr) (c c1 c2 c3 c4 : Nat) (P : List Int) (S : List (ByteArray × Int)) (l : Int) (F W : List Int) (m : Int) (Q : List PR) (w : World) (htg : TgP P S l F W m) (hdk : dokB S (pM Q) = true) (hty : tyB P (pM Q) = true) (hP : IIn w p P) (hS : SIn w y c1 S) (hT : TIn w x z F W) (hQ : DIn w v Q) :
    Calls Try.prog 83 #[.agg #[.slice p P.length c], .slice y S.length c1, .agg #[.int .i64 l, .slice x F.length c2, .slice z W.length c3, .int .i64 m], .slice v Q.length c4] w fun e w' => ∃ u, e = .returned u ∧ w'.ownsRow w.heap.size 3 1 u (tcZ P S l F).toNat (iC (toF (List.replicate (tcZ P S l F).toNat 0) (toP P S l F W m (pM Q) Q.length))) ∧ Below w.heap.size w w' := by
  obtain ⟨i0, hii, hz0, hz1, hz2⟩ := info_parts Try.infoInt
  have hQh := Lib.hid hQ
  have hQ40 : Q.length ≤ 40 := by have := dokB_len hdk; rwa [pM_len] at this
  have hth := Lib.hid htg
  have hdkh := Lib.hid hdk
  have htyh := Lib.hid hty
  have hpb := Lib.hid (toP_bd htg hdk hty)
  have hc0 : 0 ≤ tcZ P S l F := by have := tc_pos htg; omega
  have hc6 := htg.c
  have hgh := Lib.hid htg.g
  have hsh := Lib.hid htg.s
  have hrh := Lib.hid htg.r
  clear hQ htg hdk hty
  have hPh := Lib.hid hP
  have hSh := Lib.hid hS
  have hFh := Lib.hid hT.1
  have hWh := Lib.hid hT.2
  clear hP hS hT
  have p1 := Lib.hid (QB.new w p P.length c 33)
  have p2 := Lib.hid (TQ.new (w.alloc (.cells #[.slice p P.length c] 33)) l x F.length c2 z W.length c3 m 37)
  obtain ⟨w0, hw0⟩ : ∃ w0, w0 = (w.alloc (.cells #[.slice p P.length c] 33)).alloc (.cells #[.int .i64 l, .slice x F.length c2, .slice z W.length c3, .int .i64 m] 37) := ⟨_, rfl⟩
  have B0 : Below w.heap.size w w0 := by rw [hw0]; exact (by repeat (first | exact Below.refl _ _ | assumption | refine Below.drew ?_ | refine below_drewN ?_ _ | refine Below.alloc' ?_ _ | (refine Below.setCell ?_ (by first | omega | (simp; done) | (simp; omega) | exact Below.size (by assumption) | exact Nat.le_trans (Below.size (by assumption)) (by simp)) _) | (refine Below.via' ?_ (by assumption)) | (refine Below.alloc ?_ (by first | omega | (simp; done) | (simp; omega) | exact Below.size (by assumption) | exact Nat.le_trans (Below.size (by assumption)) (by simp)) _) | (refine Below.via ?_ (by assumption) (by first | omega | (simp; done) | (simp; omega) | exact Below.size (by assumption) | exact Nat.le_trans (Below.size (by assumption)) (by simp)))))
  have g0 : Hid (QB w0 w.heap.size p P.length c) := by
    rw [hw0]
    exact p1.out.below (show Below (w.alloc (.cells #[.slice p P.length c] 33)).heap.size (w.alloc (.cells #[.slice p P.length c] 33)) _ from (by repeat (first | exact Below.refl _ _ | assumption | refine Below.drew ?_ | refine below_drewN ?_ _ | refine Below.alloc' ?_ _ | (refine Below.setCell ?_ (by first | omega | (simp; done) | (simp; omega) | exact Below.size (by assumption) | exact Nat.le_trans (Below.size (by assumption)) (by simp)) _) | (refine Below.via' ?_ (by assumption)) | (refine Below.alloc ?_ (by first | omega | (simp; done) | (simp; omega) | exact Below.size (by assumption) | exact Nat.le_trans (Below.size (by assumption)) (by simp)) _) | (refine Below.via ?_ (by assumption) (by first | omega | (simp; done) | (simp; omega) | exact Below.size (by assumption) | exact Nat.le_trans (Below.size (by assumption)) (by simp))))))
  have t0 : Hid (TQ w0 (w.heap.size + 1) l x F.length c2 z W.length c3 m) := by
    have h0 := p2.out
    rw [World.size_alloc, ← hw0] at h0
    exact h0
  have z0 : w0.heap.size = w.heap.size + 1 + 1 := by rw [hw0]; simp
  clear p1 p2
  obtain ⟨n, hn⟩ := Int.eq_ofNat_of_zero_le hc0
  have hn6 : n ≤ 600 := by omega
  have hbb : i0.bytes * n ≤ 281474976710656 := by rw [hz2]; omega
  have hmm : n ≤ maxLen := by unfold maxLen; omega
  have hnt : (tcZ P S l F).toNat = n := by rw [hn, Int.toNat_natCast]
  have hnh := Lib.hid hn
  rw [hnt]
  clear hc0 hc6
  go_enter Try.func83, Try.ntmps83
  go_wp2_with fail
  rw [← hw0]
  replace hw0 := Lib.hid hw0
  replace z0 := Lib.hid z0
  refine (uCount_any p y x z _ _ _ _ P S l m F W _ hgh.out hsh.out hrh.out (hPh.out.below B0) (hSh.out.below B0) (hFh.out.below B0)).mono ?_
  rintro e w5 ⟨rfl, hb5⟩
  have B5 : Below w.heap.size w w5 := Below.via' B0 hb5
  have g5 := Lib.hid (g0.out.below hb5)
  have t5 := Lib.hid (t0.out.below hb5)
  obtain ⟨ka5, kb5, kc5⟩ := g5.out
  obtain ⟨ta5, tb5, tc5, td5, te5⟩ := t5.out
  try clear ka0 kb0 kc0 ta0 tb0 tc0 td0 te0
  clear hb5
  rw [hn]
  clear hn hnt
  go_wp2_with (at_make; go_loud (refine wpList_make_full _ rfl _ _ 22 rfl w5.heap.size 3 i0 (.int .i64 0) 1 Try.underlying22 hii hz0 hz1 .i64 .i64 _ _ n rfl rfl rfl rfl hbb hmm (Nat.le_refl _) (fun w6 hown hgrow => ?_)))
  have hb6 : Below w5.heap.size w5 w6 := (Below.refl _ _).grown hgrow (Nat.le_refl _) (by intro k hk; cases hk)
  rw [made_zeros] at hown
  have hownh := Lib.hid hown
  clear hgrow hii hz0 hz1 hz2 hbb hmm hown ka5 kb5 kc5 ta5 tb5 tc5 td5 te5
  go_wp2
  go_loopw [21] (fun q wr => ∃ j : Nat, j ≤ Q.length ∧ q = .int .i64 j ∧ wr.ownsRow w5.heap.size 3 1 (.slice (some ⟨w5.heap.size, 0, none⟩) n n) n (iC (toF (List.replicate n 0) (toP P S l F W m (pM Q) j))) ∧ Below w5.heap.size w5 wr) (fun q _ => Q.length - (intOf q).toNat)
  case atStart => exact ⟨0, by omega, by go_num, hownh.out, hb6⟩
  case round =>
    clear hownh hb6
    obtain ⟨j, hj, rfl, hown, hb⟩ := hrel
    have hownh := Lib.hid hown
    clear hown
    have Bw : Below w.heap.size w wr := Below.via' B5 hb
    by_cases hlt : j < Q.length
    · obtain ⟨bl, off, q, rfl, hbl, hQj, hc0, hc1, hc2⟩ := (hQh.out.2.2.below Bw).rec hlt
      obtain ⟨k, hka, hcl⟩ := sv_cl hdkh.out htyh.out hQj
      have hqr := Lib.hid ((hQh.out.2.1 q (List.mem_of_getElem? hQj)).2.2.below Bw)
      have hxi := toIx_at (P := P) (S := S) (l := l) (F := F) (W := W) hQj
      have hni := toNx_at (P := P) (l := l) (W := W) (m := m) hQj
      have hclh := Lib.hid hcl
      obtain ⟨qa, qh, qx, qc, qL⟩ := q
      have hka : qa = (k : Int) := hka
      subst hka
      have hlt' : (j : Int) < (Q.length : Int) := by omega
      replace hQj := Lib.hid hQj
      replace hxi : toIx P S l F W (pM Q) j = clI P S l F W (k : Int) qL := hxi
      replace hni : toNx P l W m (pM Q) j = clN P l W m (k : Int) qL := hni
      have hci := clI_bd hth.out hclh.out
      have hcN := clN_bd (m := m) hth.out hclh.out
      have hc2 : wr.cell? ⟨bl, off + j * 3 + 2, none⟩ = some (.slice qx qL.length qc) := hc2
      have BA : Below wr.heap.size wr (wr.alloc (.cells #[.int .i64 (k : Int), .int .i64 qh, .slice qx qL.length qc] 85)) := (by repeat (first | exact Below.refl _ _ | assumption | refine Below.drew ?_ | refine below_drewN ?_ _ | refine Below.alloc' ?_ _ | (refine Below.setCell ?_ (by first | omega | (simp; done) | (simp; omega) | exact Below.size (by assumption) | exact Nat.le_trans (Below.size (by assumption)) (by simp)) _) | (refine Below.via' ?_ (by assumption)) | (refine Below.alloc ?_ (by first | omega | (simp; done) | (simp; omega) | exact Below.size (by assumption) | exact Nat.le_trans (Below.size (by assumption)) (by simp)) _) | (refine Below.via ?_ (by assumption) (by first | omega | (simp; done) | (simp; omega) | exact Below.size (by assumption) | exact Nat.le_trans (Below.size (by assumption)) (by simp)))))
      obtain ⟨WA, hWA⟩ : ∃ WA, WA = wr.alloc (.cells #[.int .i64 (k : Int), .int .i64 qh, .slice qx qL.length qc] 85) := ⟨_, rfl⟩
      have hqn := RB.new wr k qh qx qL.length qc 85
      rw [← hWA] at BA hqn
      have hqn := Lib.hid hqn
      have hownA := Lib.hid (own_below hownh.out BA)
      have BwA : Below w.heap.size w WA := Below.via' Bw BA
      have B5A : Below w5.heap.size w5 WA := Below.via' hb BA
      replace hWA := Lib.hid hWA
      clear hcl
      have FF := And.intro (g5.out.below B5A) (And.intro (t5.out.below B5A) hqn.out)
      rw [hWA.out] at FF
      obtain ⟨⟨ka, kb, kc⟩, ⟨ta, tb, tc, td, te⟩, ⟨ra, rb, rc, rd⟩⟩ := FF
      go_wp2_with fail
      rw [← hWA.out]
      refine (uCell_any _ _ _ _ _ _ _ _ _ _ P S l F W m k qh qL _ hth.out hclh.out (hPh.out.below BwA) (hSh.out.below BwA) ⟨hFh.out.below BwA, hWh.out.below BwA⟩ (hqr.out.below BA)).mono ?_
      rintro e w2 ⟨rfl, hb2⟩
      have hb2' : Below w5.heap.size w5 w2 := Below.via' B5A hb2
      have ho2 := own_below hownA.out hb2
      by_cases hneg : clI P S l F W (k : Int) qL = -1
      · have hsk := Lib.hid (toP_skip (m := m) (hxi.trans hneg))
        have hge : ¬ (0 ≤ clI P S l F W (k : Int) qL) := by omega
        have hlt2 : clI P S l F W (k : Int) qL < 0 := by omega
        replace hneg := Lib.hid hneg
        replace ho2 := Lib.hid ho2
        replace hxi := Lib.hid hxi
        replace hni := Lib.hid hni
        go_wp2
        go_roundw
        case rel => exact ⟨j + 1, by omega, by go_num, by rw [hsk.out]; exact ho2.out, hb2'⟩
        case measure => simp [intOf]; omega
      · have htk := toP_take (m := m) (show toIx P S l F W (pM Q) j ≠ -1 by rw [hxi]; exact hneg)
        rw [hxi, hni] at htk
        obtain ⟨i, hi⟩ := Int.eq_ofNat_of_zero_le (show 0 ≤ clI P S l F W (k : Int) qL by omega)
        have hin : i < n := by have := hnh.out; omega
        rw [hi] at htk
        rw [Int.toNat_natCast] at htk
        rw [hi]
        have hst : toF (List.replicate n 0) (toP P S l F W m (pM Q) (j + 1)) = (toF (List.replicate n 0) (toP P S l F W m (pM Q) j)).set i ((toF (List.replicate n 0) (toP P S l F W m (pM Q) j)).getD i 0 + clN P l W m (k : Int) qL) := by rw [htk]; exact toF_snoc _ _ _
        have hbd := toF_bdR n _ (hpb.out j (by omega)) i
        have hpl := toP_len (P := P) (S := S) (l := l) (F := F) (W := W) (m := m) (M := pM Q) j
        have k0 := own_intA ho2 hin
        have k2 := ho2.frozenAt i
        have t3 : wrap64 ((toF (List.replicate n 0) (toP P S l F W m (pM Q) j)).getD i 0 + clN P l W m (k : Int) qL) = (toF (List.replicate n 0) (toP P S l F W m (pM Q) j)).getD i 0 + clN P l W m (k : Int) qL := IntWalk.wrap64_in _ (by omega)
        replace t3 := Lib.hid t3
        have hsr := ho2.stored i (.int .i64 ((toF (List.replicate n 0) (toP P S l F W m (pM Q) j)).getD i 0 + clN P l W m (k : Int) qL))
        rw [iC_setN, ← hst] at hsr
        have hb3 : Below w5.heap.size w5 (w2.setCell ⟨w5.heap.size, i, none⟩ (.int .i64 ((toF (List.replicate n 0) (toP P S l F W m (pM Q) j)).getD i 0 + clN P l W m (k : Int) qL))) := Below.setCell hb2' (Nat.le_refl _) _
        have hin' : (i : Int) < (n : Int) := by omega
        have hi0 : (0 : Int) ≤ (i : Int) := by omega
        have hrel2 := Lib.hid (And.intro hsr.1 hb3)
        replace hst := Lib.hid hst
        clear hsr hb3 hbd hpl htk hi hneg hxi hni ho2
        go_wp2
        rw [← List.getD_eq_getElem?_getD, t3.out]
        go_roundw
        case rel => exact ⟨j + 1, by omega, by go_num, hrel2.out.1, hrel2.out.2⟩
        case measure => simp [intOf]; omega
    · have hij : j = Q.length := by omega
      subst hij
      have hro := Lib.hid (own_more hownh.out B5.size)
      go_wp2
      go_ret
      exact ⟨_, rfl, hro.out, Bw⟩
set_option maxHeartbeats 4000000 in
theorem sTO_x (p y x z v : Option Addr) (c c1 c2 c3 c4 : Nat) (P : List Int) (S : List (ByteArray × Int)) (l : Int) (F W : List Int) (m : Int) (Q : List PR) (w : World) (hP : IIn w p P) (hS : SIn w y c1 S) (hT : TIn w x z F W) (hQ : DIn w v Q) :
    Calls Try.prog 33 #[.agg #[.slice p P.length c], .slice y S.length c1, .agg #[.int .i64 l, .slice x F.length c2, .slice z W.length c3, .int .i64 m], .slice v Q.length c4] w (RetLB (toL P S l F W m (pM Q)) (toB P S l F W m (pM Q)) w) := by
  have hQh := Lib.hid hQ
  clear hQ
  have hPh := Lib.hid hP
  have hSh := Lib.hid hS
  have hFh := Lib.hid hT.1
  have hWh := Lib.hid hT.2
  clear hP hS hT
  have p1 := Lib.hid (QB.new w p P.length c 33)
  have p2 := Lib.hid (TQ.new (w.alloc (.cells #[.slice p P.length c] 33)) l x F.length c2 z W.length c3 m 37)
  obtain ⟨w0, hw0⟩ : ∃ w0, w0 = (w.alloc (.cells #[.slice p P.length c] 33)).alloc (.cells #[.int .i64 l, .slice x F.length c2, .slice z W.length c3, .int .i64 m] 37) := ⟨_, rfl⟩
  have B0 : Below w.heap.size w w0 := by rw [hw0]; exact (by repeat (first | exact Below.refl _ _ | assumption | refine Below.drew ?_ | refine below_drewN ?_ _ | refine Below.alloc' ?_ _ | (refine Below.setCell ?_ (by first | omega | (simp; done) | (simp; omega) | exact Below.size (by assumption) | exact Nat.le_trans (Below.size (by assumption)) (by simp)) _) | (refine Below.via' ?_ (by assumption)) | (refine Below.alloc ?_ (by first | omega | (simp; done) | (simp; omega) | exact Below.size (by assumption) | exact Nat.le_trans (Below.size (by assumption)) (by simp)) _) | (refine Below.via ?_ (by assumption) (by first | omega | (simp; done) | (simp; omega) | exact Below.size (by assumption) | exact Nat.le_trans (Below.size (by assumption)) (by simp)))))
  have g0 : Hid (QB w0 w.heap.size p P.length c) := by
    rw [hw0]
    exact p1.out.below (show Below (w.alloc (.cells #[.slice p P.length c] 33)).heap.size (w.alloc (.cells #[.slice p P.length c] 33)) _ from (by repeat (first | exact Below.refl _ _ | assumption | refine Below.drew ?_ | refine below_drewN ?_ _ | refine Below.alloc' ?_ _ | (refine Below.setCell ?_ (by first | omega | (simp; done) | (simp; omega) | exact Below.size (by assumption) | exact Nat.le_trans (Below.size (by assumption)) (by simp)) _) | (refine Below.via' ?_ (by assumption)) | (refine Below.alloc ?_ (by first | omega | (simp; done) | (simp; omega) | exact Below.size (by assumption) | exact Nat.le_trans (Below.size (by assumption)) (by simp)) _) | (refine Below.via ?_ (by assumption) (by first | omega | (simp; done) | (simp; omega) | exact Below.size (by assumption) | exact Nat.le_trans (Below.size (by assumption)) (by simp))))))
  have t0 : Hid (TQ w0 (w.heap.size + 1) l x F.length c2 z W.length c3 m) := by
    have h0 := p2.out
    rw [World.size_alloc, ← hw0] at h0
    exact h0
  have z0 : w0.heap.size = w.heap.size + 1 + 1 := by rw [hw0]; simp
  clear p1 p2
  go_enter Try.func33, Try.ntmps33
  go_wp2_with fail
  rw [← hw0]
  replace hw0 := Lib.hid hw0
  replace z0 := Lib.hid z0
  refine (uGood_any p y x z _ _ _ _ P S l m F W _ (hPh.out.below B0) (hSh.out.below B0) ⟨hFh.out.below B0, hWh.out.below B0⟩).mono ?_
  rintro e w1 ⟨rfl, hb1⟩
  have B1 : Below w.heap.size w w1 := Below.via' B0 hb1
  have g1 := Lib.hid (g0.out.below hb1)
  have t1 := Lib.hid (t0.out.below hb1)
  obtain ⟨ka1, kb1, kc1⟩ := g1.out
  obtain ⟨ta1, tb1, tc1, td1, te1⟩ := t1.out
  try clear ka0 kb0 kc0 ta0 tb0 tc0 td0 te0
  clear hb1
  cases htg : tgB P S l F W m
  · have hv := Lib.hid (to_no1 (M := pM Q) htg)
    go_wp2
    go_ret2
    exact riLB_no (to_no0 hv.out) hv.out B1
  have htp := tg_iff.1 htg
  have hgh := Lib.hid htp.g
  have hsh := Lib.hid htp.s
  have hth := Lib.hid htp
  replace htg := Lib.hid htg
  clear htp
  go_wp2_with fail
  refine (uSurvey_any _ _ _ _ _ _ P S Q _ (hPh.out.below B1) (hSh.out.below B1) (hQh.out.below B1)).mono ?_
  rintro e w2 ⟨rfl, hb2⟩
  have B2 : Below w.heap.size w w2 := Below.via' B1 hb2
  have g2 := Lib.hid (g1.out.below hb2)
  have t2 := Lib.hid (t1.out.below hb2)
  obtain ⟨ka2, kb2, kc2⟩ := g2.out
  obtain ⟨ta2, tb2, tc2, td2, te2⟩ := t2.out
  try clear ka1 kb1 kc1 ta1 tb1 tc1 td1 te1
  clear hb2
  rw [show (geB P && idB S (pM Q) && tyB P (pM Q)) = (dokB S (pM Q) && tyB P (pM Q)) by unfold idB; rw [hgh.out, hsh.out]; rfl]
  cases hsv : (dokB S (pM Q) && tyB P (pM Q))
  · have hv := Lib.hid (to_no2 (l := l) (F := F) (W := W) (m := m) hsv)
    go_wp2
    go_ret2
    exact riLB_no (to_no0 hv.out) hv.out B2
  have hsv2 := hsv
  rw [Bool.and_eq_true] at hsv2
  have hv := Lib.hid (to_yes hth.out hsv)
  have hdk := Lib.hid hsv2.1
  have hty := Lib.hid hsv2.2
  clear hsv2 hsv
  go_wp2_with fail
  refine (uTable_any p y x z v _ _ _ _ _ P S l F W m Q _ hth.out hdk.out hty.out (hPh.out.below B2) (hSh.out.below B2) ⟨hFh.out.below B2, hWh.out.below B2⟩ (hQh.out.below B2)).mono ?_
  rintro e w5 ⟨u, rfl, ho, hb5⟩
  have ho := Lib.hid (own_more ho B2.size)
  have B5 := Below.via' B2 hb5
  go_wp2
  go_ret2
  rw [hv.out.1, hv.out.2]
  refine ⟨_, rfl, ?_, B5⟩
  rw [toF_len, List.length_replicate, pM_len]
  exact ho.out
theorem sTO_m (p y x z v : Option Addr) (c c1 c2 c3 c4 : Nat) (P : List Int) (S : List (ByteArray × Int)) (l : Int) (F W : List Int) (m : Int) (Q : List PR) (w : World) (hP : IIn w p P) (hS : SIn w y c1 S) (hT : TIn w x z F W) (hQ : DIn w v Q) (M : List RV) (hM : pM Q = M) :
    Calls Try.prog 33 #[.agg #[.slice p P.length c], .slice y S.length c1, .agg #[.int .i64 l, .slice x F.length c2, .slice z W.length c3, .int .i64 m], .slice v Q.length c4] w (RetLB (toL P S l F W m M) (toB P S l F W m M) w) := by
  subst hM
  exact sTO_x p y x z v c c1 c2 c3 c4 P S l F W m Q w hP hS hT hQ
theorem iTO_m (p y x z v : Option Addr) (c c1 c2 c3 c4 : Nat) (P : List Int) (S : List (ByteArray × Int)) (l : Int) (F W : List Int) (m : Int) (Q : List PR) (w : World) (hP : IIn w p P) (hS : SIn w y c1 S) (hT : TIn w x z F W) (hQ : DIn w v Q) (M : List RV) (hM : pM Q = M) :
    Calls Try.prog 35 #[.agg #[.slice p P.length c], .slice y S.length c1, .agg #[.int .i64 l, .slice x F.length c2, .slice z W.length c3, .int .i64 m], .slice v Q.length c4] w (RetLB (toL P S l F W m M) (toB P S l F W m M) w) := by
  subst hM
  exact iTO_x p y x z v c c1 c2 c3 c4 P S l F W m Q w hP hS hT hQ
end Go.Proofs.Ytpmbenedeakieaa
