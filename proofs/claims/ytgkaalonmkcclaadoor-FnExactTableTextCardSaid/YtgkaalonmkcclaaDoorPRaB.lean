import Derived.Test.YtgkaalonmkcclaaDoorPRaA
import Derived.Test.YtgkaalonmkcclaaDoorKit
import Derived.Test.YtgkaalonmkcclaaDoorRec
import Derived.Test.YtgkaalonmkcclaaDoorPts
namespace Go.Proofs.YtgkaalonmkcclaaDoor
open Go.RowKit Go.Shelf
set_option maxRecDepth 100000
attribute [local go_sem] Oper.semAt_some

/-- Two result variables' boxes. -/
def ResT (t n : Nat) (v : Value) (b : Bool) (W : World) : Prop := Boxed W n t v ∧ Boxed W (n + 1) 4 (.bool b)
theorem resT_new (t : Nat) (z : Value) (w : World) : ResT t w.heap.size z false ((w.alloc (.cells #[z] t)).alloc (.cells #[.bool false] 4)) := by
  refine ⟨(Boxed.new w t _).alloc _, ?_⟩
  have := Boxed.new (w.alloc (.cells #[z] t)) 4 (.bool false)
  rwa [World.size_alloc] at this
theorem ResT.below {t n : Nat} {v : Value} {b : Bool} {w W : World} (h : ResT t n v b w) (hb : Below w.heap.size w W) : ResT t n v b W := ⟨(hb.block _ h.1.lt).trans h.1, (hb.block _ h.2.lt).trans h.2⟩
theorem ResT.set {t n : Nat} {v v0 : Value} {b b0 : Bool} {W : World} (h : ResT t n v0 b0 W) : ResT t n v b ((W.setCell ⟨n, 0, none⟩ v).setCell ⟨n + 1, 0, none⟩ (.bool b)) :=
  ⟨(h.1.set v).other (by omega) _, (h.2.other (by omega) v).set (.bool b)⟩
theorem ResT.put {t n l : Nat} {v : Value} {b : Bool} {W : World} {o : Obj} (h : ResT t n v b W) (o' : Obj) (hl : W.heap[l]? = some o) (ho : o.isCells = false) : ResT t n v b (W.putObj l o') := by
  have hne : ∀ k c t z, W.heap[k]? = some (.cells c t z) → k ≠ l := by
    rintro k c t z hk rfl
    rw [hk] at hl
    cases hl
    cases ho
  exact ⟨(World.putObj_heap_other (hne _ _ _ _ h.1)).trans h.1, (World.putObj_heap_other (hne _ _ _ _ h.2)).trans h.2⟩
theorem resT_own {β : Type} (t n : Nat) (f : β → Value) (b : Bool) : Own (fun s W => ResT t n (f s) b W) := fun s A B row h hg hr =>
  ⟨boxed_own n t f s A B row h.1 hg hr, boxed_own (n + 1) 4 (fun _ => .bool b) s A B row h.2 hg hr⟩
end Go.Proofs.YtgkaalonmkcclaaDoor

namespace Go.Proofs.YtgkaalonmkcclaaDoor
open Go.RowKit
set_option maxRecDepth 100000

/-- Strictly increasing from b on, below n. -/
def rsU (n : Int) : Int → List Int → Bool
  | _, [] => true
  | b, v :: r => decide (b ≤ v ∧ v < n) && rsU n (v + 1) r
theorem rsU_at {n b : Int} {F : List Int} {i : Nat} {v : Int} (h : F[i]? = some v) : rsU n b (F.drop i) = (decide (b ≤ v ∧ v < n) && rsU n (v + 1) (F.drop (i + 1))) := by
  obtain ⟨hi, e⟩ := List.getElem?_eq_some_iff.1 h
  rw [List.drop_eq_getElem_cons hi, e]
  rfl
theorem rs_end {n b : Int} {F : List Int} : rsU n b (F.drop F.length) = true := by rw [List.drop_length]; rfl
theorem rs_bd {n : Int} : ∀ {b : Int} {F : List Int}, rsU n b F = true → ∀ v ∈ F, b ≤ v ∧ v < n
  | _, [], _, v, hv => by cases hv
  | b, u :: r, h, v, hv => by
    unfold rsU at h
    rw [Bool.and_eq_true, decide_eq_true_eq] at h
    rcases List.mem_cons.1 hv with rfl | hm
    · exact h.1
    · have := rs_bd h.2 v hm
      omega
def rsB (S : List (ByteArray × Int)) (F : List Int) : Bool := rsU S.length 0 F
theorem ag_hit {F V x : List Int} {i : Nat} {v : Int} (h : F[i]? = some v) (hne : ¬ x[v.toNat]? = V[v.toNat]?) : agB F V x = false := by
  unfold agB
  rw [List.all_eq_false]
  exact ⟨v, List.mem_of_getElem? h, by simp [hne]⟩
theorem ag_all {F V x : List Int} (h : ∀ j, j < F.length → ∃ v, F[j]? = some v ∧ x[v.toNat]? = V[v.toNat]?) : agB F V x = true := by
  unfold agB
  rw [List.all_eq_true]
  intro v hv
  obtain ⟨j, hj, e⟩ := List.getElem_of_mem hv
  obtain ⟨u, h1, h2⟩ := h j hj
  rw [List.getElem?_eq_getElem hj, e] at h1
  cases h1
  exact decide_eq_true h2
theorem ag_snoc {F V x : List Int} {i : Nat} {v : Int} (h : F[i]? = some v) : agB (F.take (i + 1)) V x = (agB (F.take i) V x && decide (x[v.toNat]? = V[v.toNat]?)) := by
  unfold agB
  rw [take_snoc h, List.all_append]
  simp
theorem ag_zero (F V x : List Int) : agB (F.take 0) V x = true := by rw [List.take_zero]; rfl
/-- Is all well asked? -/
def cgG (S : List (ByteArray × Int)) (M : List (List Int)) (F V : List Int) : Bool := smB S M && rsB S F && fitB S V
def ccB (S : List (ByteArray × Int)) (M : List (List Int)) (F V : List Int) : Bool := cgG S M F V && (coN S M F V).isSome
theorem cg_no1 {S : List (ByteArray × Int)} {M : List (List Int)} {F V : List Int} (h : smB S M = false) : cgG S M F V = false := by unfold cgG; rw [h]; rfl
theorem cg_no2 {S : List (ByteArray × Int)} {M : List (List Int)} {F V : List Int} (h : rsB S F = false) : cgG S M F V = false := by unfold cgG; rw [h, Bool.and_false]; rfl
theorem cg_no3 {S : List (ByteArray × Int)} {M : List (List Int)} {F V : List Int} (h : fitB S V = false) : cgG S M F V = false := by unfold cgG; rw [h, Bool.and_false]
theorem cg_yes {S : List (ByteArray × Int)} {M : List (List Int)} {F V : List Int} (h : smB S M = true) (k : rsB S F = true) (m : fitB S V = true) : cgG S M F V = true := by unfold cgG; rw [h, k, m]; rfl
theorem cg_get {S : List (ByteArray × Int)} {M : List (List Int)} {F V : List Int} (h : cgG S M F V = true) : smB S M = true ∧ rsB S F = true ∧ fitB S V = true := by
  unfold cgG at h
  rw [Bool.and_eq_true, Bool.and_eq_true] at h
  exact ⟨h.1.1, h.1.2, h.2⟩
theorem cc_no {S : List (ByteArray × Int)} {M : List (List Int)} {F V : List Int} (h : cgG S M F V = false) : ccB S M F V = false := by unfold ccB; rw [h]; rfl
theorem cc_ok {S : List (ByteArray × Int)} {M : List (List Int)} {F V : List Int} (h : cgG S M F V = true) : ccB S M F V = (coN S M F V).isSome := by unfold ccB; rw [h]; rfl
theorem co_none {S : List (ByteArray × Int)} {M : List (List Int)} {F V : List Int} (h : coN S M F V = none) : coL S M F V = [] := by unfold coL; rw [h]
theorem co_some {S : List (ByteArray × Int)} {M : List (List Int)} {F V : List Int} {k : Nat} (h : coN S M F V = some k) : coL S M F V = atL S k := by unfold coL; rw [h]
theorem co_len (S : List (ByteArray × Int)) (M : List (List Int)) (F V : List Int) : (coL S M F V).length ≤ S.length := by
  cases h : coN S M F V with
  | none => rw [co_none h]; exact Nat.zero_le _
  | some k => rw [co_some h, atL_len]; exact Nat.le_refl _
theorem coP_eq {S : List (ByteArray × Int)} {M : List (List Int)} {F V : List Int} (k : Nat) : coP S M F V k = (!faB M (atL S k) && agB F V (atL S k)) := rfl
set_option maxHeartbeats 1000000 in
theorem areIndices_any (y : Option Addr) (c2 : Nat) (n : Nat) (F : List Int) (w : World) (hm : n ≤ 1048576) (hF : IIn w y F) :
    Calls Tryd.prog 69 #[.slice y F.length c2, .int .i64 (n : Int)] w fun e w' => e = .returned (.bool (rsU n 0 F)) ∧ w = w' := by
  have hFh := Lib.hid hF
  have hFl := hF.1
  clear hF
  go_enter Tryd.func69, Tryd.ntmps69
  go_wp2
  go_loopw [5, 10] (fun b c wr => ∃ (i : Nat) (bz : Int), i ≤ F.length ∧ c = .int .i64 i ∧ b = .int .i64 bz ∧ 0 ≤ bz ∧ bz ≤ 1048576 ∧ Hid (rsU n bz (F.drop i) = rsU n 0 F) ∧ w = wr) (fun _ c _ => F.length - (intOf c).toNat)
  case atStart => exact ⟨0, 0, by omega, rfl, rfl, by omega, by omega, (by unfold Hid; rw [List.drop_zero]), rfl⟩
  case round =>
    obtain ⟨i, bz, hi, rfl, rfl, hb0, hb1, hrs, rfl⟩ := hrel
    by_cases hlt : i < F.length
    · obtain ⟨bl, off, v, rfl, hbl, hFi, hc0⟩ := hFh.out.2.2.int hlt
      have hv64 := hFh.out.2.1 v (List.mem_of_getElem? hFi)
      unfold IsI64 at hv64
      have hat := Lib.hid (rsU_at (n := (n : Int)) (b := bz) hFi)
      have hlt' : (i : Int) < (F.length : Int) := by omega
      have hi0 : (0 : Int) ≤ (i : Int) := by omega
      clear hFi
      by_cases h1 : v < bz
      · have hv : Hid (rsU n 0 F = false) := by unfold Hid; rw [← hrs.out, hat.out, decide_eq_false (by omega)]; rfl
        go_wp2
        go_ret
        exact ⟨ret_bool hv.out.symm, rfl⟩
      · by_cases h2 : (n : Int) ≤ v
        · have hv : Hid (rsU n 0 F = false) := by unfold Hid; rw [← hrs.out, hat.out, decide_eq_false (by omega)]; rfl
          go_wp2
          go_ret
          exact ⟨ret_bool hv.out.symm, rfl⟩
        · have hv : Hid (rsU n (v + 1) (F.drop (i + 1)) = rsU n 0 F) := by unfold Hid; rw [← hrs.out, hat.out, decide_eq_true (by omega), Bool.true_and]
          go_wp2
          go_roundw
          case rel => exact ⟨i + 1, v + 1, by omega, by go_num, by go_num, by omega, by omega, hv.out, by first | rfl | trivial⟩
          case measure => simp [intOf]; omega
    · have hij : i = F.length := by omega
      subst hij
      have hv : Hid (rsU n 0 F = true) := by unfold Hid; rw [← hrs.out]; exact rs_end
      clear hrs
      go_wp2
      go_ret
      exact ⟨ret_bool hv.out.symm, rfl⟩
theorem areVariablesOf_any (x y : Option Addr) (c1 c2 : Nat) (S : List (ByteArray × Int)) (F : List Int) (w : World) (hm : S.length ≤ 1048576) (hF : IIn w y F) :
    Calls Tryd.prog 52 #[.slice x S.length c1, .slice y F.length c2] w fun e w' => e = .returned (.bool (rsB S F)) ∧ w = w' := by
  have hFh := Lib.hid hF
  clear hF
  go_enter Tryd.func52, Tryd.ntmps52
  go_wp2_with fail
  refine (areIndices_any _ _ S.length F _ hm hFh.out).mono ?_
  rintro e w1 ⟨rfl, rfl⟩
  go_wp2
  go_ret
  exact ⟨rfl, rfl⟩
set_option maxHeartbeats 2000000 in
theorem l1Rising_any (y : Option Addr) (c2 : Nat) (S : List (ByteArray × Int)) (F : List Int) (w : World) (hm : S.length ≤ 1048576) (hF : IIn w y F) :
    Calls Tryd.prog 37 #[.slice y F.length c2, .int .i64 0, .int .i64 ((S.length : Int) - 1)] w fun e w' => e = .returned (.bool (rsB S F)) ∧ Below w.heap.size w w' := by
  have hFh := Lib.hid hF
  have hFl := hF.1
  clear hF
  go_enter Tryd.func37, Tryd.ntmps37
  go_wp2
  go_loopw [11] (fun c wr => ∃ (i : Nat) (bz : Int), i ≤ F.length ∧ c = .int .i64 i ∧ Hid ((i = 0 ∧ bz = 0) ∨ ∃ u, 0 < i ∧ F[i - 1]? = some u ∧ bz = u + 1) ∧ 0 ≤ bz ∧ bz ≤ 1048576 ∧ Hid (rsU S.length bz (F.drop i) = rsB S F) ∧ Below w.heap.size w wr) (fun c _ => F.length - (intOf c).toNat)
  case atStart => exact ⟨0, 0, by omega, rfl, .inl ⟨rfl, rfl⟩, by omega, by omega, (by unfold Hid; rw [List.drop_zero]; rfl), Below.refl _ _⟩
  case round =>
    obtain ⟨i, bz, hi, rfl, hpre, hb0, hb1, hrs, hBr⟩ := hrel
    by_cases hlt : i < F.length
    · obtain ⟨bl, off, v, hy, hbl, hFi, hc0⟩ := (hFh.out.below hBr).2.2.int hlt
      have hv64 := hFh.out.2.1 v (List.mem_of_getElem? hFi)
      unfold IsI64 at hv64
      have hat := Lib.hid (rsU_at (n := (S.length : Int)) (b := bz) hFi)
      have hFih := Lib.hid hFi
      have hlt' : (i : Int) < (F.length : Int) := by omega
      have hi0 : (0 : Int) ≤ (i : Int) := by omega
      clear hFi
      subst hy
      go_wp2_with fail
      refine (l1In_any _ _ _ _).mono ?_
      rintro e w2 ⟨rfl, rfl⟩
      by_cases hin : 0 ≤ v ∧ v < (S.length : Int)
      · have hb : inB v 0 ((S.length : Int) - 1) = true := (inB_iff ..).2 ⟨hin.1, by omega⟩
        rw [hb]
        clear hb
        rcases hpre.out with ⟨rfl, rfl⟩ | ⟨u, hi1, hu, rfl⟩
        · have hv : Hid (rsU S.length (v + 1) (F.drop (0 + 1)) = rsB S F) := by unfold Hid; rw [← hrs.out, hat.out, decide_eq_true (by omega), Bool.true_and]
          go_wp2
          go_roundw
          case rel => exact ⟨0 + 1, v + 1, by omega, by go_num, .inr ⟨v, by omega, by simpa using hFih.out, rfl⟩, by omega, by omega, hv.out, (by repeat (first | exact Below.refl _ _ | assumption | refine Below.drew ?_ | refine below_drewN ?_ _ | refine Below.alloc' ?_ _ | (refine Below.setCell ?_ (by first | omega | (simp; done) | (simp; omega) | exact Below.size (by assumption) | exact Nat.le_trans (Below.size (by assumption)) (by simp)) _) | (refine Below.via' ?_ (by assumption)) | (refine Below.alloc ?_ (by first | omega | (simp; done) | (simp; omega) | exact Below.size (by assumption) | exact Nat.le_trans (Below.size (by assumption)) (by simp)) _) | (refine Below.via ?_ (by assumption) (by first | omega | (simp; done) | (simp; omega) | exact Below.size (by assumption) | exact Nat.le_trans (Below.size (by assumption)) (by simp)))))⟩
          case measure => simp [intOf]; omega
        · obtain ⟨bl2, off2, u2, e2, hbl2, hu2, hc1⟩ := (hFh.out.below hBr).2.2.int (i := i - 1) (by omega)
          injection e2 with e2
          injection e2 with e2 e3
          subst e2 e3
          obtain rfl := Option.some.inj (hu2.symm.trans hu)
          have hpos : (0 : Int) < (i : Int) := by omega
          have hge : (0 : Int) ≤ (i : Int) - 1 := by omega
          have hlt2 : (i : Int) - 1 < (F.length : Int) := by omega
          replace hu := Lib.hid hu
          replace hu2 := Lib.hid hu2
          by_cases h1 : v ≤ u2
          · have hv : Hid (rsB S F = false) := by unfold Hid; rw [← hrs.out, hat.out, decide_eq_false (by omega)]; rfl
            go_wp2
            go_ret
            exact ⟨ret_bool hv.out.symm, (by repeat (first | exact Below.refl _ _ | assumption | refine Below.drew ?_ | refine below_drewN ?_ _ | refine Below.alloc' ?_ _ | (refine Below.setCell ?_ (by first | omega | (simp; done) | (simp; omega) | exact Below.size (by assumption) | exact Nat.le_trans (Below.size (by assumption)) (by simp)) _) | (refine Below.via' ?_ (by assumption)) | (refine Below.alloc ?_ (by first | omega | (simp; done) | (simp; omega) | exact Below.size (by assumption) | exact Nat.le_trans (Below.size (by assumption)) (by simp)) _) | (refine Below.via ?_ (by assumption) (by first | omega | (simp; done) | (simp; omega) | exact Below.size (by assumption) | exact Nat.le_trans (Below.size (by assumption)) (by simp)))))⟩
          · have hv : Hid (rsU S.length (v + 1) (F.drop (i + 1)) = rsB S F) := by unfold Hid; rw [← hrs.out, hat.out, decide_eq_true (by omega), Bool.true_and]
            go_wp2
            go_roundw
            case rel => exact ⟨i + 1, v + 1, by omega, by go_num, .inr ⟨v, by omega, by simpa using hFih.out, rfl⟩, by omega, by omega, hv.out, (by repeat (first | exact Below.refl _ _ | assumption | refine Below.drew ?_ | refine below_drewN ?_ _ | refine Below.alloc' ?_ _ | (refine Below.setCell ?_ (by first | omega | (simp; done) | (simp; omega) | exact Below.size (by assumption) | exact Nat.le_trans (Below.size (by assumption)) (by simp)) _) | (refine Below.via' ?_ (by assumption)) | (refine Below.alloc ?_ (by first | omega | (simp; done) | (simp; omega) | exact Below.size (by assumption) | exact Nat.le_trans (Below.size (by assumption)) (by simp)) _) | (refine Below.via ?_ (by assumption) (by first | omega | (simp; done) | (simp; omega) | exact Below.size (by assumption) | exact Nat.le_trans (Below.size (by assumption)) (by simp)))))⟩
            case measure => simp [intOf]; omega
      · have hb : inB v 0 ((S.length : Int) - 1) = false := by
          cases h : inB v 0 ((S.length : Int) - 1) with
          | false => rfl
          | true => exact absurd ⟨((inB_iff ..).1 h).1, by have := ((inB_iff ..).1 h).2; omega⟩ hin
        have hv : Hid (rsB S F = false) := by unfold Hid; rw [← hrs.out, hat.out, decide_eq_false (by omega)]; rfl
        rw [hb]
        clear hb
        go_wp2
        go_ret
        exact ⟨ret_bool hv.out.symm, (by repeat (first | exact Below.refl _ _ | assumption | refine Below.drew ?_ | refine below_drewN ?_ _ | refine Below.alloc' ?_ _ | (refine Below.setCell ?_ (by first | omega | (simp; done) | (simp; omega) | exact Below.size (by assumption) | exact Nat.le_trans (Below.size (by assumption)) (by simp)) _) | (refine Below.via' ?_ (by assumption)) | (refine Below.alloc ?_ (by first | omega | (simp; done) | (simp; omega) | exact Below.size (by assumption) | exact Nat.le_trans (Below.size (by assumption)) (by simp)) _) | (refine Below.via ?_ (by assumption) (by first | omega | (simp; done) | (simp; omega) | exact Below.size (by assumption) | exact Nat.le_trans (Below.size (by assumption)) (by simp)))))⟩
    · have hij : i = F.length := by omega
      subst hij
      have hv : Hid (rsB S F = true) := by unfold Hid; rw [← hrs.out]; exact rs_end
      clear hrs hpre
      go_wp2
      go_ret
      exact ⟨ret_bool hv.out.symm, hBr⟩
end Go.Proofs.YtgkaalonmkcclaaDoor

namespace Go.Proofs.YtgkaalonmkcclaaDoor
open Go.RowKit

/-- Is it a geography? -/
def geB (P : List Int) : Bool := inB P.length 1 30 && decide (P[0]? = some (-1)) && (List.range P.length).all fun i => decide (i = 0) || inB (P.getD i 0) 0 ((i : Int) - 1)
theorem ge_short {P : List Int} (h : P.length = 0 ∨ 30 < P.length) : geB P = false := by
  unfold geB
  rw [(inB_no _ _ _).2 (by omega)]
  rfl
theorem ge_root {P : List Int} (h : P[0]? ≠ some (-1)) : geB P = false := by
  unfold geB
  rw [decide_eq_false h, Bool.and_false]
  rfl
theorem ge_bad {P : List Int} {i : Nat} {v : Int} (h1 : 1 ≤ i) (h : P[i]? = some v) (hb : ¬ (0 ≤ v ∧ v < i)) : geB P = false := by
  unfold geB
  rw [Bool.and_eq_false_iff]
  right
  rw [List.all_eq_false]
  refine ⟨i, List.mem_range.2 (List.getElem?_eq_some_iff.1 h).1, ?_⟩
  rw [List.getD_eq_getElem?_getD, h, Option.getD_some, (inB_no _ _ _).2 (by omega), decide_eq_false (by omega)]
  simp
theorem ge_ok {P : List Int} (h0 : 1 ≤ P.length) (h1 : P.length ≤ 30) (h2 : P[0]? = some (-1)) (h : ∀ i, 1 ≤ i → i < P.length → ∃ v, P[i]? = some v ∧ 0 ≤ v ∧ v < i) : geB P = true := by
  unfold geB
  rw [(inB_iff _ _ _).2 ⟨by omega, by omega⟩, decide_eq_true h2, Bool.and_true, Bool.true_and, List.all_eq_true]
  intro i hi
  rcases Nat.eq_zero_or_pos i with e | e
  · rw [decide_eq_true e]; rfl
  · obtain ⟨v, hv, a, b⟩ := h i e (List.mem_range.1 hi)
    rw [List.getD_eq_getElem?_getD, hv, Option.getD_some, (inB_iff _ _ _).2 ⟨a, by omega⟩, Bool.or_true]
theorem ge_len {P : List Int} (h : geB P = true) : 1 ≤ P.length ∧ P.length ≤ 30 := by
  unfold geB at h
  simp only [Bool.and_eq_true] at h
  have := (inB_iff _ _ _).1 h.1.1
  omega
theorem ge_zero {P : List Int} (h : geB P = true) : P[0]? = some (-1) := by
  unfold geB at h
  simp only [Bool.and_eq_true, decide_eq_true_eq] at h
  exact h.1.2
theorem ge_par {P : List Int} (h : geB P = true) {i : Nat} (h1 : 1 ≤ i) (hi : i < P.length) : ∃ p : Nat, P[i]? = some (p : Int) ∧ p < i := by
  unfold geB at h
  simp only [Bool.and_eq_true] at h
  have := List.all_eq_true.1 h.2 i (List.mem_range.2 hi)
  rw [decide_eq_false (by omega), Bool.false_or, inB_iff, List.getD_eq_getElem?_getD, List.getElem?_eq_getElem hi, Option.getD_some] at this
  exact ⟨P[i].toNat, by rw [List.getElem?_eq_getElem hi]; congr 1; omega, by omega⟩

/-- An area and its ancestors, the area first; the path to it. -/
def upW (P : List Int) (i : Nat) : List Int := (i : Int) :: (if _h : i ≠ 0 ∧ (P.getD i 0).toNat < i then upW P (P.getD i 0).toNat else [])
termination_by i
decreasing_by exact _h.2
def ptL (P : List Int) (i : Nat) : List Int := (upW P i).reverse
def dpN (P : List Int) (i : Nat) : Nat := (ptL P i).length - 1
theorem upW_zero (P : List Int) : upW P 0 = [0] := by rw [upW]; simp
theorem upW_step {P : List Int} {i p : Nat} (h : P[i]? = some (p : Int)) (hp : p < i) : upW P i = (i : Int) :: upW P p := by
  rw [upW]
  have e : (P.getD i 0).toNat = p := by rw [List.getD_eq_getElem?_getD, h]; simp
  rw [e, dif_pos ⟨by omega, hp⟩]
theorem pt_zero (P : List Int) : ptL P 0 = [0] := by unfold ptL; rw [upW_zero]; rfl
theorem pt_step {P : List Int} {i p : Nat} (h : P[i]? = some (p : Int)) (hp : p < i) : ptL P i = ptL P p ++ [(i : Int)] := by unfold ptL; rw [upW_step h hp, List.reverse_cons]
theorem dp_zero (P : List Int) : dpN P 0 = 0 := by unfold dpN; rw [pt_zero]; rfl
theorem pt_len (P : List Int) (i : Nat) : (ptL P i).length = dpN P i + 1 := by
  have : 1 ≤ (ptL P i).length := by unfold ptL; rw [upW]; simp
  unfold dpN
  omega
theorem dp_step {P : List Int} {i p : Nat} (h : P[i]? = some (p : Int)) (hp : p < i) : dpN P i = dpN P p + 1 := by
  have := pt_len P i
  rw [pt_step h hp, List.length_append, pt_len] at this
  simp at this
  omega
/-- Areas by their parents. -/
theorem ge_ind {P : List Int} (h : geB P = true) {Q : Nat → Prop} (h0 : Q 0) (h1 : ∀ i p : Nat, i < P.length → P[i]? = some (p : Int) → p < i → Q p → Q i) : ∀ i, i < P.length → Q i := by
  intro i
  induction i using Nat.strongRecOn with
  | _ i ih =>
    intro hi
    rcases Nat.eq_zero_or_pos i with e | e
    · subst e; exact h0
    · obtain ⟨p, hp, hl⟩ := ge_par h e hi
      exact h1 i p hi hp hl (ih p hl (by omega))
theorem dp_le {P : List Int} (h : geB P = true) {i : Nat} (hi : i < P.length) : dpN P i ≤ i := by
  refine ge_ind h (Q := fun i => dpN P i ≤ i) (by rw [dp_zero]; omega) (fun i p _ h1 h2 h3 => ?_) i hi
  have := dp_step h1 h2
  show _ ≤ _
  have h3' : dpN P p ≤ p := h3
  omega
theorem pt_mem {P : List Int} (h : geB P = true) {i : Nat} (hi : i < P.length) : ∀ x ∈ ptL P i, 0 ≤ x ∧ x ≤ i := by
  refine ge_ind h (Q := fun i => ∀ x ∈ ptL P i, 0 ≤ x ∧ x ≤ (i : Int)) (by rw [pt_zero]; simp) (fun i p _ h1 h2 h3 => ?_) i hi
  intro x hx
  rw [pt_step h1 h2, List.mem_append, List.mem_singleton] at hx
  rcases hx with hx | hx
  · have := h3 x hx
    omega
  · omega
theorem pt_last (P : List Int) {i : Nat} : (ptL P i)[dpN P i]? = some (i : Int) := by
  have e : dpN P i = (ptL P i).length - 1 := rfl
  rw [e, ← List.getLast?_eq_getElem?]
  unfold ptL
  rw [upW]
  simp
/-- An ancestor, or -1. -/
def anZ (P : List Int) (i : Nat) (l : Int) : Int := if 0 ≤ l ∧ l ≤ dpN P i then (ptL P i).getD l.toNat 0 else -1
theorem an_low {P : List Int} {i : Nat} {l : Int} (h : l < 0) : anZ P i l = -1 := if_neg (by omega)
theorem an_high {P : List Int} {i : Nat} {l : Int} (h : (dpN P i : Int) < l) : anZ P i l = -1 := if_neg (by omega)
theorem an_at {P : List Int} {i l : Nat} {v : Int} (h : (ptL P i)[l]? = some v) : anZ P i l = v := by
  have := (List.getElem?_eq_some_iff.1 h).1
  rw [pt_len] at this
  unfold anZ
  rw [if_pos (by omega), List.getD_eq_getElem?_getD, Int.toNat_natCast, h]
  rfl
theorem an_pre {P : List Int} {i j l : Nat} (h : ptL P j <+: ptL P i) (hl : dpN P j = l) : anZ P i l = j := by
  refine an_at ?_
  obtain ⟨t, ht⟩ := h
  rw [← ht, List.getElem?_append_left (by rw [pt_len]; omega), ← hl]
  exact pt_last P
theorem an_bd {P : List Int} (h : geB P = true) {i : Nat} (hi : i < P.length) (l : Int) : -1 ≤ anZ P i l ∧ anZ P i l ≤ 29 ∧ (0 ≤ anZ P i l ↔ 0 ≤ l ∧ l ≤ dpN P i) := by
  have hl := ge_len h
  unfold anZ
  by_cases hk : 0 ≤ l ∧ l ≤ dpN P i
  · rw [if_pos hk]
    have hlt : l.toNat < (ptL P i).length := by rw [pt_len]; omega
    rw [List.getD_eq_getElem?_getD, List.getElem?_eq_getElem hlt, Option.getD_some]
    have := pt_mem h hi _ (List.getElem_mem hlt)
    refine ⟨by omega, by omega, ⟨fun _ => hk, fun _ => this.1⟩⟩
  · rw [if_neg hk]
    exact ⟨by omega, by omega, ⟨fun h => by omega, fun h => absurd h hk⟩⟩

/-- The numbers below k that a test takes. -/
def selK (p : Nat → Bool) (k : Nat) : List Int := ((List.range k).filter p).map fun i : Nat => (i : Int)
theorem sel_zero (p : Nat → Bool) : selK p 0 = [] := rfl
theorem sel_yes {p : Nat → Bool} {k : Nat} (h : p k = true) : selK p (k + 1) = selK p k ++ [(k : Int)] := by unfold selK; rw [List.range_succ, List.filter_append]; simp [h]
theorem sel_no {p : Nat → Bool} {k : Nat} (h : p k = false) : selK p (k + 1) = selK p k := by unfold selK; rw [List.range_succ, List.filter_append]; simp [h]
theorem sel_len (p : Nat → Bool) (k : Nat) : (selK p k).length ≤ k := by
  unfold selK
  rw [List.length_map]
  exact Nat.le_trans (List.length_filter_le _ _) (by simp)
theorem sel_congr {p q : Nat → Bool} {k : Nat} (h : ∀ i, i < k → p i = q i) : selK p k = selK q k := by
  unfold selK
  rw [List.filter_congr (fun i hi => h i (List.mem_range.1 hi))]
theorem sel_mem {p : Nat → Bool} {k : Nat} {x : Int} : x ∈ selK p k ↔ ∃ i : Nat, x = (i : Int) ∧ i < k ∧ p i = true := by
  unfold selK
  simp only [List.mem_map, List.mem_filter, List.mem_range]
  constructor
  · rintro ⟨i, ⟨a, b⟩, rfl⟩; exact ⟨i, rfl, a, b⟩
  · rintro ⟨i, rfl, a, b⟩; exact ⟨i, ⟨a, b⟩, rfl⟩
/-- The places that hold a number. -/
def eqP (L : List Int) (n : Int) : Nat → Bool := fun i => decide (L[i]? = some n)
def awL (L : List Int) (n : Int) : List Int := selK (eqP L n) L.length
theorem eqP_at {L : List Int} {n v : Int} {i : Nat} (h : L[i]? = some v) : eqP L n i = decide (v = n) := by unfold eqP; rw [h]; simp
/-- Depths, counts of children; leaves, levels. -/
def dpL (P : List Int) : List Int := (List.range P.length).map fun i : Nat => (dpN P i : Int)
def cnK (P : List Int) (k i : Nat) : Int := (selK (eqP P i) k).length
def cnL (P : List Int) : List Int := (List.range P.length).map fun i : Nat => cnK P P.length i
def lvL (P : List Int) (l : Int) : List Int := selK (fun i => decide ((dpN P i : Int) = l)) P.length
def lfP (P : List Int) : Nat → Bool := fun i => decide ((awL P i).length = 0)
def lfL (P : List Int) : List Int := selK (lfP P) P.length
theorem dpL_len (P : List Int) : (dpL P).length = P.length := by unfold dpL; simp
theorem cnL_len (P : List Int) : (cnL P).length = P.length := by unfold cnL; simp
theorem dpL_at {P : List Int} {i : Nat} (h : i < P.length) : (dpL P)[i]? = some (dpN P i : Int) := by unfold dpL; simp [h]
theorem cnL_at {P : List Int} {i : Nat} (h : i < P.length) : (cnL P)[i]? = some (cnK P P.length i) := by unfold cnL; simp [h]
theorem lv_aw (P : List Int) (l : Int) : awL (dpL P) l = lvL P l := by
  unfold awL lvL
  rw [dpL_len]
  refine sel_congr fun i hi => ?_
  rw [eqP_at (dpL_at hi)]
theorem lf_aw (P : List Int) : awL (cnL P) 0 = lfL P := by
  unfold awL lfL
  rw [cnL_len]
  refine sel_congr fun i hi => ?_
  rw [eqP_at (cnL_at hi)]
  unfold lfP cnK awL
  rw [decide_eq_decide]
  omega
theorem gcn_zero (P : List Int) (h : geB P = true) (i : Nat) : cnK P 1 i = 0 := by
  unfold cnK
  rw [sel_no (by rw [eqP_at (ge_zero h)]; exact decide_eq_false (by omega)), sel_zero]
  rfl
theorem gcn_yes {P : List Int} {k p : Nat} (h : P[k]? = some (p : Int)) : cnK P (k + 1) p = cnK P k p + 1 := by
  unfold cnK
  rw [sel_yes (by rw [eqP_at h]; exact decide_eq_true rfl), List.length_append]
  simp
theorem gcn_no {P : List Int} {k p q : Nat} (h : P[k]? = some (p : Int)) (hq : q ≠ p) : cnK P (k + 1) q = cnK P k q := by
  unfold cnK
  rw [sel_no (by rw [eqP_at h]; exact decide_eq_false (by omega))]
theorem gcn_bd (P : List Int) (k i : Nat) : 0 ≤ cnK P k i ∧ cnK P k i ≤ k := by
  have := sel_len (eqP P i) k
  unfold cnK
  omega

/-- What two paths have in common, from the root on; its last area. -/
def cpL : List Int → List Int → List Int
  | a :: r, b :: s => if a = b then a :: cpL r s else []
  | _, _ => []
def mtZ (P : List Int) (i k : Nat) : Int := (cpL (ptL P i) (ptL P k)).getLastD 0
theorem cp_same : ∀ a : List Int, cpL a a = a
  | [] => rfl
  | a :: r => by simp [cpL, cp_same r]
theorem cp_comm : ∀ a b : List Int, cpL a b = cpL b a
  | [], [] => rfl
  | [], b :: s => rfl
  | a :: r, [] => rfl
  | a :: r, b :: s => by
    unfold cpL
    by_cases h : a = b
    · subst h; rw [if_pos rfl, if_pos rfl, cp_comm r s]
    · rw [if_neg h, if_neg (fun e => h e.symm)]
theorem cp_snoc {c : Int} : ∀ {a b : List Int}, c ∉ b → cpL (a ++ [c]) b = cpL a b
  | [], [], _ => rfl
  | [], b :: s, h => by
    simp only [List.mem_cons, not_or] at h
    show cpL [c] (b :: s) = []
    unfold cpL
    rw [if_neg h.1]
  | a :: r, [], _ => rfl
  | a :: r, b :: s, h => by
    simp only [List.mem_cons, not_or] at h
    simp only [List.cons_append, cpL]
    rw [cp_snoc h.2]
theorem mt_same (P : List Int) (i : Nat) : mtZ P i i = i := by
  unfold mtZ
  rw [cp_same, List.getLastD_eq_getLast?]
  unfold ptL
  rw [upW]
  simp
theorem mt_comm (P : List Int) (i k : Nat) : mtZ P i k = mtZ P k i := by unfold mtZ; rw [cp_comm]
theorem mt_up {P : List Int} (hg : geB P = true) {i p k : Nat} (h : P[i]? = some (p : Int)) (hp : p < i) (hk : k < P.length) (hik : k < i) : mtZ P i k = mtZ P p k := by
  unfold mtZ
  rw [pt_step h hp, cp_snoc]
  intro hm
  have := pt_mem hg hk _ hm
  omega
theorem cp_take : ∀ (a b : List Int) (n : Nat) (x : Int), n = (cpL (a.take n) (b.take n)).length → a[n]? = some x → b[n]? = some x → cpL (a.take (n + 1)) (b.take (n + 1)) = cpL (a.take n) (b.take n) ++ [x]
  | [], b, n, x, _, h, _ => by simp at h
  | a :: r, [], n, x, _, _, h => by simp at h
  | a :: r, b :: s, 0, x, _, h1, h2 => by
    simp at h1 h2
    subst h1 h2
    simp [cpL]
  | a :: r, b :: s, n + 1, x, h, h1, h2 => by
    simp only [List.take_succ_cons, cpL] at h ⊢
    by_cases e : a = b
    · subst e
      rw [if_pos rfl] at h ⊢
      rw [if_pos rfl]
      simp only [List.length_cons, Nat.add_right_cancel_iff, List.getElem?_cons_succ, List.cons_append, List.cons.injEq, true_and] at h h1 h2 ⊢
      have := cp_take r s n x h h1 h2
      simpa using this
    · rw [if_neg e] at h
      simp at h
theorem cp_end : ∀ (a b : List Int) (n : Nat), n = (cpL (a.take n) (b.take n)).length → (n = a.length ∨ n = b.length ∨ ∃ x y, a[n]? = some x ∧ b[n]? = some y ∧ x ≠ y) → cpL a b = cpL (a.take n) (b.take n)
  | [], b, n, h, _ => by simp [cpL]
  | a :: r, [], n, h, _ => by simp [cpL]
  | a :: r, b :: s, 0, h, hk => by
    rcases hk with hk | hk | ⟨x, y, h1, h2, hne⟩
    · simp at hk
    · simp at hk
    · simp at h1 h2
      subst h1 h2
      simp [cpL, hne]
  | a :: r, b :: s, n + 1, h, hk => by
    simp only [List.take_succ_cons, cpL] at h ⊢
    by_cases e : a = b
    · subst e
      rw [if_pos rfl] at h ⊢
      rw [if_pos rfl]
      congr 1
      refine cp_end r s n (by simpa using h) ?_
      simpa using hk
    · rw [if_neg e] at h
      simp at h

/-- One step of a sum, and all steps above k. -/
def suS (P : List Int) (V : List Int) (i : Nat) : List Int := V.set (P.getD i 0).toNat (wrap64 (V.getD (P.getD i 0).toNat 0 + V.getD i 0))
def suK (P : List Int) (V : List Int) : Nat → List Int
  | 0 => V
  | n + 1 => suS P (suK P V n) (V.length - 1 - n)
def suL (P V : List Int) : List Int := suK P V (V.length - 1)
theorem suS_at {P V : List Int} {i p : Nat} {a b : Int} (hp : P[i]? = some (p : Int)) (ha : V[p]? = some a) (hb : V[i]? = some b) : suS P V i = V.set p (wrap64 (a + b)) := by
  unfold suS
  rw [show P.getD i 0 = (p : Int) by rw [List.getD_eq_getElem?_getD, hp]; rfl, Int.toNat_natCast, List.getD_eq_getElem?_getD, ha, List.getD_eq_getElem?_getD, hb]
  rfl
theorem suK_len (P V : List Int) : ∀ n, (suK P V n).length = V.length
  | 0 => rfl
  | n + 1 => by unfold suK suS; rw [List.length_set, suK_len]
theorem suL_len (P V : List Int) : (suL P V).length = V.length := suK_len P V _
end Go.Proofs.YtgkaalonmkcclaaDoor

namespace Go.Proofs.YtgkaalonmkcclaaDoor

/-- Lists in lexicographic order: -1, 0 or 1. -/
def lxZ : List Int → List Int → Int
  | [], [] => 0
  | [], _ :: _ => -1
  | _ :: _, [] => 1
  | a :: x, b :: y => if a < b then -1 else if b < a then 1 else lxZ x y
/-- Two numbers. -/
def cmZ (a b : Int) : Int := if a < b then -1 else if b < a then 1 else 0
def RV.key (p : RV) : List Int := p.1 :: p.2.1 :: p.2.2
/-- Two records. -/
def rcZ (p q : RV) : Int := lxZ (RV.key p) (RV.key q)
theorem lxZ_nilnil : lxZ [] [] = 0 := by unfold lxZ; rfl
theorem lxZ_nilcons (b : Int) (y : List Int) : lxZ [] (b :: y) = -1 := by unfold lxZ; rfl
theorem lxZ_consnil (a : Int) (x : List Int) : lxZ (a :: x) [] = 1 := by unfold lxZ; rfl
theorem lxZ_cons (a b : Int) (x y : List Int) : lxZ (a :: x) (b :: y) = if a < b then -1 else if b < a then 1 else lxZ x y := by rw [lxZ]
theorem lxZ_self : ∀ x : List Int, lxZ x x = 0
  | [] => lxZ_nilnil
  | a :: x => by rw [lxZ_cons, if_neg (by omega), if_neg (by omega), lxZ_self x]
theorem lxZ_neg : ∀ x y : List Int, lxZ y x = - lxZ x y
  | [], [] => by rw [lxZ_nilnil]; rfl
  | [], b :: y => by rw [lxZ_nilcons, lxZ_consnil]; rfl
  | a :: x, [] => by rw [lxZ_nilcons, lxZ_consnil]
  | a :: x, b :: y => by
    rw [lxZ_cons, lxZ_cons]
    by_cases h1 : a < b
    · rw [if_neg (by omega), if_pos h1, if_pos h1]; rfl
    · by_cases h2 : b < a
      · rw [if_pos h2, if_neg h1, if_pos h2]
      · rw [if_neg h2, if_neg h1, if_neg h1, if_neg h2, lxZ_neg x y]
theorem lxZ_bd : ∀ x y : List Int, lxZ x y = -1 ∨ lxZ x y = 0 ∨ lxZ x y = 1
  | [], [] => by rw [lxZ_nilnil]; simp
  | [], b :: y => by rw [lxZ_nilcons]; simp
  | a :: x, [] => by rw [lxZ_consnil]; simp
  | a :: x, b :: y => by
    rw [lxZ_cons]
    split
    · simp
    · split
      · simp
      · exact lxZ_bd x y
theorem lxZ_zero : ∀ {x y : List Int}, lxZ x y = 0 → x = y
  | [], [], _ => rfl
  | [], b :: y, h => by rw [lxZ_nilcons] at h; cases h
  | a :: x, [], h => by rw [lxZ_consnil] at h; cases h
  | a :: x, b :: y, h => by
    rw [lxZ_cons] at h
    split at h
    · cases h
    · split at h
      · cases h
      · rw [lxZ_zero h, show a = b by omega]
theorem lxZ_trans : ∀ {x y z : List Int}, lxZ x y ≤ 0 → lxZ y z ≤ 0 → lxZ x z ≤ 0
  | [], _, [], _, _ => by rw [lxZ_nilnil]; omega
  | [], _, _ :: _, _, _ => by rw [lxZ_nilcons]; omega
  | a :: x, [], _, h, _ => by rw [lxZ_consnil] at h; omega
  | a :: x, b :: y, [], _, h => by rw [lxZ_consnil] at h; omega
  | a :: x, b :: y, c :: z, h1, h2 => by
    rw [lxZ_cons] at h1 h2 ⊢
    split at h1
    · split at h2
      · rw [if_pos (by omega)]; omega
      · split at h2
        · omega
        · rw [if_pos (by omega)]; omega
    · split at h1
      · omega
      · split at h2
        · rw [if_pos (by omega)]; omega
        · split at h2
          · omega
          · rw [if_neg (by omega), if_neg (by omega)]
            exact lxZ_trans h1 h2
theorem key_inj {p q : RV} (h : RV.key p = RV.key q) : p = q := by
  unfold RV.key at h
  injection h with h1 h2
  injection h2 with h2 h3
  exact Prod.ext h1 (Prod.ext h2 h3)
theorem rcZ_self (p : RV) : rcZ p p = 0 := lxZ_self _
theorem rcZ_neg (p q : RV) : rcZ q p = - rcZ p q := lxZ_neg _ _
theorem rcZ_zero {p q : RV} (h : rcZ p q = 0) : p = q := key_inj (lxZ_zero h)
theorem rcZ_trans {p q r : RV} (h : rcZ p q ≤ 0) (k : rcZ q r ≤ 0) : rcZ p r ≤ 0 := lxZ_trans h k
theorem rcZ_bd (p q : RV) : rcZ p q = -1 ∨ rcZ p q = 0 ∨ rcZ p q = 1 := lxZ_bd _ _
theorem rcZ_of (p q : RV) : rcZ p q = if p.1 < q.1 then -1 else if q.1 < p.1 then 1 else if p.2.1 < q.2.1 then -1 else if q.2.1 < p.2.1 then 1 else lxZ p.2.2 q.2.2 := by
  unfold rcZ RV.key
  rw [lxZ_cons, lxZ_cons]

/-- Not after. -/
def leR (p q : RV) : Bool := decide (rcZ p q ≤ 0)
theorem leR_iff (p q : RV) : leR p q = true ↔ rcZ p q ≤ 0 := by unfold leR; simp
theorem leR_tr (a b c : RV) : leR a b = true → leR b c = true → leR a c = true := by rw [leR_iff, leR_iff, leR_iff]; exact rcZ_trans
theorem leR_to (a b : RV) : (leR a b || leR b a) = true := by
  rw [Bool.or_eq_true, leR_iff, leR_iff]
  have := rcZ_neg a b
  omega
theorem leR_anti {a b : RV} (h : leR a b = true) (k : leR b a = true) : a = b := by
  rw [leR_iff] at h k
  have := rcZ_neg a b
  exact rcZ_zero (by omega)
/-- The records in order. -/
def srt (L : List RV) : List RV := L.mergeSort leR
def isS (L : List RV) : Prop := L.Pairwise fun a b => leR a b = true
theorem srt_perm (L : List RV) : (srt L).Perm L := List.mergeSort_perm L leR
theorem srt_pw (L : List RV) : isS (srt L) := List.pairwise_mergeSort leR_tr leR_to L
theorem srt_len (L : List RV) : (srt L).length = L.length := (srt_perm L).length_eq
/-- There is but one list in order with the same records. -/
theorem srt_uniq {L M : List RV} (hp : M.Perm L) (hs : isS M) : M = srt L :=
  List.Perm.eq_of_pairwise (le := fun a b => leR a b = true) (fun _ _ _ _ h1 h2 => leR_anti h1 h2) hs (srt_pw L) (hp.trans (srt_perm L).symm)
/-- A record is put behind all that are not after it. -/
theorem isS_put {L : List RV} {r : RV} {k : Nat} (hs : isS L) (h1 : ∀ p ∈ L.drop k, leR r p = true) (h2 : k = 0 ∨ ∃ p, L[k - 1]? = some p ∧ leR p r = true) : isS (L.take k ++ r :: L.drop k) := by
  unfold isS at hs ⊢
  rw [← List.take_append_drop k L, List.pairwise_append] at hs
  obtain ⟨s1, s2, s3⟩ := hs
  refine List.pairwise_append.2 ⟨s1, List.pairwise_cons.2 ⟨h1, s2⟩, fun a ha b hb => ?_⟩
  have har : leR a r = true := by
    rcases h2 with h2 | ⟨p, hp, hpr⟩
    · subst h2; simp at ha
    · obtain ⟨j, hj, e⟩ := List.mem_take_iff_getElem.1 ha
      by_cases hjk : j = k - 1
      · subst hjk
        rw [List.getElem?_eq_getElem (by omega)] at hp
        injection hp with hp
        rw [← e, hp]
        exact hpr
      · have hkl : k - 1 < L.length := (List.getElem?_eq_some_iff.1 hp).1
        have : leR L[j] L[k - 1] = true := by
          have hpw := s1
          rw [List.pairwise_iff_getElem] at hpw
          have := hpw j (k - 1) (by rw [List.length_take]; omega) (by rw [List.length_take]; omega) (by omega)
          simpa using this
        rw [List.getElem?_eq_getElem hkl] at hp
        injection hp with hp
        rw [← e]
        exact leR_tr _ _ _ this (by rw [hp]; exact hpr)
  rcases List.mem_cons.1 hb with rfl | hb
  · exact har
  · exact s3 a ha b hb
theorem put_perm {α : Type} (L : List α) (r : α) (k : Nat) : (L.take k ++ r :: L.drop k).Perm (L ++ [r]) := by
  have : (L.take k ++ r :: L.drop k).Perm (r :: (L.take k ++ L.drop k)) := List.perm_middle
  rw [List.take_append_drop] at this
  exact this.trans (List.perm_append_singleton r L).symm
/-- Two lists are the same if and only if their sorted lists are equal, record by record. -/
def sameB (A B : List RV) : Bool := decide (srt A = srt B)

/-- Is it a record, are they data, for a valid schema? -/
def rokB (S : List (ByteArray × Int)) (q : RV) : Bool := inB q.1 0 29 && inB q.2.1 0 999 && fitB S q.2.2
def dokB (S : List (ByteArray × Int)) (Q : List RV) : Bool := decide (Q.length ≤ 40) && Q.all (rokB S)
theorem dokB_len {S : List (ByteArray × Int)} {Q : List RV} (h : dokB S Q = true) : Q.length ≤ 40 := by
  unfold dokB at h
  simp only [Bool.and_eq_true, decide_eq_true_eq] at h
  exact h.1
theorem dokB_mem {S : List (ByteArray × Int)} {Q : List RV} (h : dokB S Q = true) {q : RV} (hq : q ∈ Q) : rokB S q = true := by
  unfold dokB at h
  simp only [Bool.and_eq_true, decide_eq_true_eq, List.all_eq_true] at h
  exact h.2 q hq
theorem dokB_long {S : List (ByteArray × Int)} {Q : List RV} (h : 40 < Q.length) : dokB S Q = false := by unfold dokB; rw [decide_eq_false (by omega)]; rfl
theorem dokB_bad {S : List (ByteArray × Int)} {Q : List RV} {i : Nat} {q : RV} (h : Q[i]? = some q) (hq : rokB S q = false) : dokB S Q = false := by
  unfold dokB
  rw [Bool.and_eq_false_iff]
  right
  rw [List.all_eq_false]
  exact ⟨q, List.mem_of_getElem? h, by rw [hq]; simp⟩
theorem dokB_all {S : List (ByteArray × Int)} {Q : List RV} (h : ∀ j, j < Q.length → ∃ q, Q[j]? = some q ∧ rokB S q = true) : dokB S Q = decide (Q.length ≤ 40) := by
  unfold dokB
  have : Q.all (rokB S) = true := by
    rw [List.all_eq_true]
    intro q hq
    obtain ⟨j, hj, e⟩ := List.getElem_of_mem hq
    obtain ⟨p, hp, hr⟩ := h j hj
    rw [List.getElem?_eq_getElem hj, e] at hp
    injection hp with hp
    rw [hp]; exact hr
  rw [this, Bool.and_true]
theorem rokB_get {S : List (ByteArray × Int)} {q : RV} (h : rokB S q = true) : 0 ≤ q.1 ∧ q.1 ≤ 29 ∧ 0 ≤ q.2.1 ∧ q.2.1 ≤ 999 ∧ fitB S q.2.2 = true := by
  unfold rokB at h
  rw [Bool.and_eq_true, Bool.and_eq_true, inB_iff, inB_iff] at h
  exact ⟨h.1.1.1, h.1.1.2, h.1.2.1, h.1.2.2, h.2⟩
/-- A schema, a record; a schema, data. -/
def irB (S : List (ByteArray × Int)) (q : RV) : Bool := schB S && rokB S q
def idB (S : List (ByteArray × Int)) (Q : List RV) : Bool := schB S && dokB S Q
end Go.Proofs.YtgkaalonmkcclaaDoor

namespace Go.Proofs.YtgkaalonmkcclaaDoor
open Go.RowKit

/-- The variables that a list names; the values of these. -/
def tbS (S : List (ByteArray × Int)) (F : List Int) : List (ByteArray × Int) := F.map fun i => S.getD i.toNat (⟨#[]⟩, 0)
def tbV (V : List Int) (F : List Int) : List Int := F.map fun i => V.getD i.toNat 0
theorem tbS_len (S : List (ByteArray × Int)) (F : List Int) : (tbS S F).length = F.length := by unfold tbS; rw [List.length_map]
theorem tbV_len (V F : List Int) : (tbV V F).length = F.length := by unfold tbV; rw [List.length_map]
theorem tbS_at {S : List (ByteArray × Int)} {F : List Int} {k : Nat} {i : Int} {p : ByteArray × Int} (h : F[k]? = some i) (hp : S[i.toNat]? = some p) : (tbS S F)[k]? = some p := by
  unfold tbS
  rw [List.getElem?_map, h]
  simp [List.getD_eq_getElem?_getD, hp]
theorem tbV_at {V F : List Int} {k : Nat} {i v : Int} (h : F[k]? = some i) (hp : V[i.toNat]? = some v) : (tbV V F)[k]? = some v := by
  unfold tbV
  rw [List.getElem?_map, h]
  simp [List.getD_eq_getElem?_getD, hp]
theorem tbS_snoc (S : List (ByteArray × Int)) {F : List Int} {k : Nat} {i : Int} {p : ByteArray × Int} (h : F[k]? = some i) (hp : S[i.toNat]? = some p) : tbS S (F.take (k + 1)) = tbS S (F.take k) ++ [p] := by
  unfold tbS
  rw [take_snoc h, List.map_append]
  simp [List.getD_eq_getElem?_getD, hp]
theorem tbV_snoc (V : List Int) {F : List Int} {k : Nat} {i v : Int} (h : F[k]? = some i) (hp : V[i.toNat]? = some v) : tbV V (F.take (k + 1)) = tbV V (F.take k) ++ [v] := by
  unfold tbV
  rw [take_snoc h, List.map_append]
  simp [List.getD_eq_getElem?_getD, hp]
theorem rsU_pw {n : Int} : ∀ {b : Int} {F : List Int}, rsU n b F = true → F.Pairwise (fun a c => a < c)
  | _, [], _ => List.Pairwise.nil
  | b, v :: r, h => by
    unfold rsU at h
    rw [Bool.and_eq_true, decide_eq_true_eq] at h
    exact List.Pairwise.cons (fun u hu => by have := rs_bd h.2 u hu; omega) (rsU_pw h.2)
theorem rsU_len {n : Int} : ∀ {b : Int} {F : List Int}, rsU n b F = true → 0 ≤ b → b ≤ n → (F.length : Int) ≤ n - b
  | b, [], _, _, h => by simp; omega
  | b, v :: r, h, h0, h1 => by
    unfold rsU at h
    rw [Bool.and_eq_true, decide_eq_true_eq] at h
    have := rsU_len h.2 (by omega) (by omega)
    simp only [List.length_cons]
    omega
theorem rsB_len {S : List (ByteArray × Int)} {F : List Int} (h : rsB S F = true) : F.length ≤ S.length := by
  have := rsU_len h (by omega) (by omega)
  omega
theorem rsB_bd {S : List (ByteArray × Int)} {F : List Int} (h : rsB S F = true) {k : Nat} {i : Int} (hk : F[k]? = some i) : 0 ≤ i ∧ i < S.length ∧ i.toNat < S.length := by
  have := rs_bd h i (List.mem_of_getElem? hk)
  omega
theorem tbS_get {S : List (ByteArray × Int)} {F : List Int} (h : rsB S F = true) {k : Nat} {p : ByteArray × Int} (hk : (tbS S F)[k]? = some p) : ∃ i : Int, F[k]? = some i ∧ S[i.toNat]? = some p := by
  unfold tbS at hk
  rw [List.getElem?_map, Option.map_eq_some_iff] at hk
  obtain ⟨i, hi, e⟩ := hk
  have := (rsB_bd h hi).2.2
  rw [List.getD_eq_getElem?_getD, List.getElem?_eq_getElem this, Option.getD_some] at e
  exact ⟨i, hi, by rw [List.getElem?_eq_getElem this, e]⟩
theorem tbS_ok {S : List (ByteArray × Int)} {F : List Int} (hs : schB S = true) (h : rsB S F = true) : PtS (tbS S F) := by
  cases F with
  | nil => exact Or.inl rfl
  | cons f r =>
    right
    have hl := rsB_len h
    have h6 := schB_len hs
    rw [schB_of (by rw [tbS_len]; simp) (by rw [tbS_len]; omega), upB_iff]
    refine ⟨fun p hp => ?_, ?_⟩
    · obtain ⟨k, hk, e⟩ := List.getElem_of_mem hp
      obtain ⟨i, -, hi⟩ := tbS_get h (k := k) (p := p) (by rw [List.getElem?_eq_getElem hk, e])
      exact schB_va hs (List.mem_of_getElem? hi)
    · have hpw : (f :: r).Pairwise (fun a c => a < c) := rsU_pw h
      have hnd := ((upB_iff S).1 (schB_up hs)).2
      unfold ky tbS
      rw [List.map_map]
      show ((f :: r).map _).Pairwise (· ≠ ·)
      rw [List.pairwise_map]
      refine hpw.imp_of_mem fun {a c} ha hc hlt heq => ?_
      obtain ⟨ka, hka, ea⟩ := List.getElem_of_mem ha
      obtain ⟨kc, hkc, ec⟩ := List.getElem_of_mem hc
      have ba := rsB_bd h (k := ka) (i := a) (by rw [List.getElem?_eq_getElem hka, ea])
      have bc := rsB_bd h (k := kc) (i := c) (by rw [List.getElem?_eq_getElem hkc, ec])
      simp only [Function.comp, List.getD_eq_getElem?_getD, List.getElem?_eq_getElem ba.2.2, List.getElem?_eq_getElem bc.2.2, Option.getD_some] at heq
      have hla : a.toNat < (ky S).length := by unfold ky; rw [List.length_map]; exact ba.2.2
      have hlc : c.toNat < (ky S).length := by unfold ky; rw [List.length_map]; exact bc.2.2
      have := List.pairwise_iff_getElem.1 hnd a.toNat c.toNat hla hlc (by omega)
      have e1 : ∀ (i : Nat) (hi : i < (ky S).length) (h2 : i < S.length), (ky S)[i] = nmL S[i].1 := fun i hi h2 => by simp [ky]
      rw [e1 _ _ ba.2.2, e1 _ _ bc.2.2] at this
      exact this heq
theorem tbV_fit {S : List (ByteArray × Int)} {V F : List Int} (hf : fitB S V = true) (h : rsB S F = true) : fitB (tbS S F) (tbV V F) = true := by
  refine fit_all (by rw [tbS_len, tbV_len]) fun k hk => ?_
  have hk' : k < (tbS S F).length := hk
  obtain ⟨i, hi, hp⟩ := tbS_get h (k := k) (p := (tbS S F)[k]) (List.getElem?_eq_getElem hk')
  have hlt := (rsB_bd h hi).2.2
  have hv : V[i.toNat]? = some (V[i.toNat]'(by rw [fit_len hf]; exact hlt)) := List.getElem?_eq_getElem _
  have := fit_get hf (nm := ((tbS S F)[k]).1) (lv := ((tbS S F)[k]).2) hp hv
  exact ⟨((tbS S F)[k]).1, ((tbS S F)[k]).2, _, List.getElem?_eq_getElem hk', tbV_at hi hv, this.1, this.2⟩
/-- Conditions: a set of levels for each variable, none counts as all. -/
def twB (S : List (ByteArray × Int)) (W : List Int) : Bool := decide (W.length = S.length) && (S.zip W).all fun q => inB q.2 0 (2 ^ q.1.2.toNat - 1)
theorem tw_len {S : List (ByteArray × Int)} {W : List Int} (h : twB S W = true) : W.length = S.length := by unfold twB at h; simp only [Bool.and_eq_true, decide_eq_true_eq] at h; exact h.1
theorem tw_no {S : List (ByteArray × Int)} {W : List Int} (h : W.length ≠ S.length) : twB S W = false := by unfold twB; rw [decide_eq_false h]; rfl
theorem tw_bad {S : List (ByteArray × Int)} {W : List Int} {i : Nat} {nm : ByteArray} {lv x : Int} (h1 : S[i]? = some (nm, lv)) (h2 : W[i]? = some x) (h : inB x 0 (2 ^ lv.toNat - 1) = false) : twB S W = false := by
  unfold twB
  have : ((S.zip W).all fun q => inB q.2 0 (2 ^ q.1.2.toNat - 1)) = false := by
    rw [List.all_eq_false]
    exact ⟨((nm, lv), x), List.mem_of_getElem? (zip_at h1 h2), by rw [h]; decide⟩
  rw [this, Bool.and_false]
theorem tw_all {S : List (ByteArray × Int)} {W : List Int} (hl : W.length = S.length) (h : ∀ j, j < S.length → ∃ nm lv x, S[j]? = some (nm, lv) ∧ W[j]? = some x ∧ inB x 0 (2 ^ lv.toNat - 1) = true) : twB S W = true := by
  unfold twB
  rw [decide_eq_true hl, Bool.true_and, List.all_eq_true]
  intro q hq
  obtain ⟨j, hj, e⟩ := List.getElem_of_mem hq
  obtain ⟨nm, lv, x, a, b, c⟩ := h j (by rw [List.length_zip] at hj; omega)
  have e2 := List.getElem?_eq_getElem hj
  rw [zip_at a b, e] at e2
  cases e2
  exact c
theorem tw_get {S : List (ByteArray × Int)} {W : List Int} (hs : schB S = true) (h : twB S W = true) {i : Nat} {x : Int} (h2 : W[i]? = some x) : ∃ nm lv, S[i]? = some (nm, lv) ∧ 2 ≤ lv ∧ lv ≤ 8 ∧ 0 ≤ x ∧ x ≤ flZ lv ∧ x ≤ 255 := by
  have hi : i < S.length := by rw [← tw_len h]; exact (List.getElem?_eq_some_iff.1 h2).1
  have h1 : S[i]? = some (S[i].1, S[i].2) := List.getElem?_eq_getElem hi
  have hl := schB_lv hs h1
  refine ⟨_, _, h1, hl.1, hl.2, ?_⟩
  by_cases hb : inB x 0 (2 ^ (S[i].2).toNat - 1) = true
  · have hb2 := (inB_iff _ _ _).1 hb
    have := flZ_bd hl
    unfold flZ at this ⊢
    exact ⟨hb2.1, hb2.2, by omega⟩
  · rw [tw_bad h1 h2 (by simpa using hb)] at h
    cases h
/-- Are values in the sets of the conditions? -/
def tmB (W V : List Int) : Bool := (W.zip V).all fun q => decide (q.1 = 0) || hsB q.1 q.2
theorem tm_bad {W V : List Int} {i : Nat} {x v : Int} (h1 : W[i]? = some x) (h2 : V[i]? = some v) (h : x ≠ 0) (k : hsB x v = false) : tmB W V = false := by
  unfold tmB
  rw [List.all_eq_false]
  refine ⟨(x, v), List.mem_of_getElem? (List.getElem?_zip_eq_some.2 ⟨h1, h2⟩), ?_⟩
  simp only
  rw [decide_eq_false h, k]
  decide
theorem tm_all {W V : List Int} (h : ∀ j, j < W.length → ∃ x v, W[j]? = some x ∧ V[j]? = some v ∧ (x = 0 ∨ hsB x v = true)) : tmB W V = true := by
  unfold tmB
  rw [List.all_eq_true]
  intro q hq
  obtain ⟨j, hj, e⟩ := List.getElem_of_mem hq
  obtain ⟨x, v, a, b, c⟩ := h j (by rw [List.length_zip] at hj; omega)
  have e2 := List.getElem?_eq_getElem hj
  rw [List.getElem?_zip_eq_some.2 (show W[j]? = some (x, v).1 ∧ V[j]? = some (x, v).2 from ⟨a, b⟩), e] at e2
  cases e2
  simp only
  rcases c with c | c
  · rw [decide_eq_true c]; rfl
  · rw [c, Bool.or_true]

/-- How many cells; is it a table? -/
def tcZ (P : List Int) (S : List (ByteArray × Int)) (l : Int) (F : List Int) : Int := ((lvL P l).length : Int) * cnZ (tbS S F)
def tgB (P : List Int) (S : List (ByteArray × Int)) (l : Int) (F W : List Int) (m : Int) : Bool :=
  geB P && (schB S && (rsB S F && (twB S W && (inB m (-1) ((S.length : Int) - 1) && (decide (0 < (lvL P l).length) && decide (tcZ P S l F ≤ 600))))))
structure TgP (P : List Int) (S : List (ByteArray × Int)) (l : Int) (F W : List Int) (m : Int) : Prop where
  g : geB P = true
  s : schB S = true
  r : rsB S F = true
  w : twB S W = true
  m0 : -1 ≤ m
  m1 : m < S.length
  v : 0 < (lvL P l).length
  c : tcZ P S l F ≤ 600
theorem tg_iff {P : List Int} {S : List (ByteArray × Int)} {l : Int} {F W : List Int} {m : Int} : tgB P S l F W m = true ↔ TgP P S l F W m := by
  unfold tgB
  simp only [Bool.and_eq_true, decide_eq_true_eq, inB_iff]
  exact ⟨fun ⟨a, b, c, d, ⟨e0, e1⟩, f, g⟩ => ⟨a, b, c, d, e0, by omega, f, g⟩, fun ⟨a, b, c, d, e0, e1, f, g⟩ => ⟨a, b, c, d, ⟨e0, by omega⟩, f, g⟩⟩
theorem tg_no {P : List Int} {S : List (ByteArray × Int)} {l : Int} {F W : List Int} {m : Int} (h : ¬ TgP P S l F W m) : tgB P S l F W m = false := by
  rw [← Bool.not_eq_true, tg_iff]; exact h
theorem lvL_len (P : List Int) (l : Int) : (lvL P l).length ≤ P.length := sel_len _ _
theorem tc_bd {P : List Int} {S : List (ByteArray × Int)} {l : Int} {F : List Int} (hg : geB P = true) (hs : schB S = true) (h : rsB S F = true) : 0 ≤ tcZ P S l F ∧ tcZ P S l F ≤ 7864320 ∧ 1 ≤ cnZ (tbS S F) ∧ cnZ (tbS S F) ≤ 262144 := by
  have hc := pt_cn (tbS_ok hs h)
  have hl := lvL_len P l
  have h30 := (ge_len hg).2
  unfold tcZ
  generalize cnZ (tbS S F) = c at hc ⊢
  generalize (lvL P l).length = n at hl ⊢
  have p1 : (n : Int) * c ≤ 30 * 262144 := Int.mul_le_mul (by omega) hc.2 (by omega) (by omega)
  exact ⟨Int.mul_nonneg (by omega) (by omega), by omega, hc.1, hc.2⟩
theorem tc_pos {P : List Int} {S : List (ByteArray × Int)} {l : Int} {F W : List Int} {m : Int} (h : TgP P S l F W m) : 1 ≤ tcZ P S l F := by
  have hc := pt_cn (tbS_ok h.s h.r)
  have hv := h.v
  unfold tcZ
  generalize cnZ (tbS S F) = c at hc ⊢
  generalize (lvL P l).length = n at hv ⊢
  have p1 : 1 * 1 ≤ (n : Int) * c := Int.mul_le_mul (by omega) hc.1 (by omega) (by omega)
  omega

/-- Where a number stands in a list, or -1. -/
def fdI (L : List Int) (n : Int) : Int := match L.findIdx? (· == n) with | some i => i | none => -1
theorem fdI_hit {L : List Int} {n : Int} {i : Nat} (h : L[i]? = some n) (hb : ∀ j, j < i → ¬ L[j]? = some n) : fdI L n = i := by
  unfold fdI
  have : L.findIdx? (· == n) = some i := by
    rw [List.findIdx?_eq_some_iff_getElem]
    obtain ⟨hi, e⟩ := List.getElem?_eq_some_iff.1 h
    refine ⟨hi, by simp [e], fun j hj => ?_⟩
    have := hb j hj
    rw [List.getElem?_eq_getElem (by omega : j < L.length)] at this
    simpa using this
  rw [this]
theorem fdI_miss {L : List Int} {n : Int} (h : ¬ n ∈ L) : fdI L n = -1 := by
  unfold fdI
  have : L.findIdx? (· == n) = none := by
    rw [List.findIdx?_eq_none_iff]
    intro x hx
    simp only [beq_eq_false_iff_ne, ne_eq]
    rintro rfl
    exact h hx
  rw [this]
theorem fdI_mem {L : List Int} {n : Int} (h : n ∈ L) : ∃ i : Nat, fdI L n = i ∧ L[i]? = some n ∧ i < L.length := by
  unfold fdI
  cases hf : L.findIdx? (· == n) with
  | none =>
    rw [List.findIdx?_eq_none_iff] at hf
    have := hf n h
    simp at this
  | some i =>
    rw [List.findIdx?_eq_some_iff_getElem] at hf
    obtain ⟨hi, e, -⟩ := hf
    simp at e
    exact ⟨i, rfl, by rw [List.getElem?_eq_getElem hi, e], hi⟩
theorem fdI_bd (L : List Int) (n : Int) : -1 ≤ fdI L n ∧ fdI L n < L.length := by
  by_cases h : n ∈ L
  · obtain ⟨i, e, -, hi⟩ := fdI_mem h
    omega
  · rw [fdI_miss h]
    omega
theorem fdI_neg {L : List Int} {n : Int} : 0 ≤ fdI L n ↔ n ∈ L := by
  by_cases h : n ∈ L
  · obtain ⟨i, e, -, -⟩ := fdI_mem h
    exact ⟨fun _ => h, fun _ => by omega⟩
  · rw [fdI_miss h]
    exact ⟨fun k => by omega, fun k => absurd k h⟩

/-- The cell of an area and values. -/
def ceZ (P : List Int) (S : List (ByteArray × Int)) (l : Int) (F : List Int) (a : Int) (V : List Int) : Int := fdI (lvL P l) a * cnZ (tbS S F) + ixZ (tbS S F) V
theorem ce_bd {P : List Int} {S : List (ByteArray × Int)} {l : Int} {F W : List Int} {m a : Int} {V : List Int} (h : TgP P S l F W m) (ha : a ∈ lvL P l) (hf : fitB (tbS S F) V = true) :
    0 ≤ fdI (lvL P l) a * cnZ (tbS S F) ∧ fdI (lvL P l) a * cnZ (tbS S F) ≤ 600 ∧ 0 ≤ ceZ P S l F a V ∧ ceZ P S l F a V < tcZ P S l F := by
  obtain ⟨i, e, -, hi⟩ := fdI_mem ha
  have hp := tbS_ok h.s h.r
  have hc := pt_cn hp
  have hx := pt_ix hp hf
  have h6 := h.c
  unfold ceZ tcZ at *
  rw [e]
  generalize cnZ (tbS S F) = c at *
  generalize ixZ (tbS S F) V = x at *
  generalize (lvL P l).length = n at *
  have p1 : ((i : Int) + 1) * c ≤ (n : Int) * c := Int.mul_le_mul_of_nonneg_right (by omega) (by omega)
  have p2 : 0 ≤ (i : Int) * c := Int.mul_nonneg (by omega) (by omega)
  rw [Int.add_mul] at p1
  omega

/-- The area of a level above an area is one of that level. -/
theorem an_lv {P : List Int} (hg : geB P = true) {i : Nat} (hi : i < P.length) {l : Int} (h : 0 ≤ anZ P i l) : anZ P i l ∈ lvL P l := by
  have hb := (an_bd hg hi l).2.2.1 h
  obtain ⟨n, rfl⟩ := Int.eq_ofNat_of_zero_le hb.1
  have hn : n ≤ dpN P i := by omega
  revert hn
  refine ge_ind hg (Q := fun i => n ≤ dpN P i → anZ P i n ∈ lvL P n) (fun h0 => ?_) (fun i p hi hp hl ih h0 => ?_) i hi
  · rw [dp_zero] at h0
    obtain rfl : n = 0 := by omega
    rw [an_at (l := 0) (v := 0) (by rw [pt_zero]; rfl)]
    exact sel_mem.2 ⟨0, rfl, by have := ge_len hg; omega, by rw [dp_zero]; rfl⟩
  · have hd := dp_step hp hl
    have h0' : n ≤ dpN P i := h0
    rcases Nat.lt_or_ge (dpN P p) n with h1 | h1
    · obtain rfl : n = dpN P i := by omega
      rw [an_at (pt_last P)]
      exact sel_mem.2 ⟨i, rfl, hi, decide_eq_true rfl⟩
    · have e : anZ P i n = anZ P p n := by
        have hlt : n < (ptL P p).length := by rw [pt_len]; omega
        have hat : (ptL P p)[n]? = some ((ptL P p)[n]) := List.getElem?_eq_getElem hlt
        rw [an_at hat, an_at (v := (ptL P p)[n])]
        rw [pt_step hp hl, List.getElem?_append_left hlt, hat]
      show anZ P i n ∈ lvL P n
      rw [e]
      exact ih h1

/-- The cell and the amount of a record, or -1 and 0. -/
def clI (P : List Int) (S : List (ByteArray × Int)) (l : Int) (F W : List Int) (a : Int) (V : List Int) : Int := if 0 ≤ anZ P a.toNat l ∧ tmB W V = true then ceZ P S l F (anZ P a.toNat l) (tbV V F) else -1
def clN (P : List Int) (l : Int) (W : List Int) (m : Int) (a : Int) (V : List Int) : Int := if 0 ≤ anZ P a.toNat l ∧ tmB W V = true then (if m < 0 then 1 else V.getD m.toNat 0) else 0
theorem cl_no {P : List Int} {S : List (ByteArray × Int)} {l : Int} {F W : List Int} {m a : Int} {V : List Int} (h : ¬ (0 ≤ anZ P a.toNat l ∧ tmB W V = true)) : clI P S l F W a V = -1 ∧ clN P l W m a V = 0 := ⟨if_neg h, if_neg h⟩
theorem cl_yes {P : List Int} {S : List (ByteArray × Int)} {l : Int} {F W : List Int} {a : Int} {V : List Int} (h : 0 ≤ anZ P a.toNat l) (k : tmB W V = true) : clI P S l F W a V = ceZ P S l F (anZ P a.toNat l) (tbV V F) := if_pos ⟨h, k⟩
theorem cl_one {P : List Int} {l : Int} {W : List Int} {m a : Int} {V : List Int} (h : 0 ≤ anZ P a.toNat l) (k : tmB W V = true) (hm : m < 0) : clN P l W m a V = 1 := by unfold clN; rw [if_pos ⟨h, k⟩, if_pos hm]
theorem cl_val {P : List Int} {l : Int} {W : List Int} {m a v : Int} {V : List Int} (h : 0 ≤ anZ P a.toNat l) (k : tmB W V = true) (hm : 0 ≤ m) (hv : V[m.toNat]? = some v) : clN P l W m a V = v := by
  unfold clN
  rw [if_pos ⟨h, k⟩, if_neg (by omega), List.getD_eq_getElem?_getD, hv]
  rfl
theorem cl_bd {P : List Int} {S : List (ByteArray × Int)} {l : Int} {F W : List Int} {m a : Int} {V : List Int} (h : TgP P S l F W m) (ha : a.toNat < P.length) (hf : fitB S V = true) :
    -1 ≤ clI P S l F W a V ∧ clI P S l F W a V < tcZ P S l F ∧ 0 ≤ clN P l W m a V ∧ clN P l W m a V ≤ 8 := by
  by_cases hk : 0 ≤ anZ P a.toNat l ∧ tmB W V = true
  · rw [cl_yes hk.1 hk.2]
    have := ce_bd h (an_lv h.g ha hk.1) (tbV_fit hf h.r)
    refine ⟨by omega, this.2.2.2, ?_⟩
    by_cases hm : m < 0
    · rw [cl_one hk.1 hk.2 hm]; omega
    · have hi : m.toNat < S.length := by have := h.m1; omega
      have hs : S[m.toNat]? = some (S[m.toNat].1, S[m.toNat].2) := List.getElem?_eq_getElem hi
      have hv : V[m.toNat]? = some (V[m.toNat]'(by rw [fit_len hf]; exact hi)) := List.getElem?_eq_getElem _
      rw [cl_val hk.1 hk.2 (by omega) hv]
      have h1 := fit_get hf hs hv
      have h2 := schB_lv h.s hs
      omega
  · obtain ⟨e1, e2⟩ := cl_no (S := S) (F := F) (m := m) hk
    rw [e1, e2]
    have := tc_pos h
    omega

/-- A survey; what the functions answer. -/
def tyB (P : List Int) (M : List RV) : Bool := M.all fun r => (lfL P).contains r.1
end Go.Proofs.YtgkaalonmkcclaaDoor
