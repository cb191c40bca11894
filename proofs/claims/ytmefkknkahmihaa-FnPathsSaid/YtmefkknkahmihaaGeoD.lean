/-
  The walks of chapter 4: depths, lists of areas; the program's and the model's.
-/
import Derived.Test.YtmefkknkahmihaaGeoT
import Derived.Test.YtmefkknkahmihaaApp
namespace Go.Proofs.Ytmefkknkahmihaa
open Go.RowKit
set_option maxRecDepth 100000

theorem iC_appG (A B : List Int) : iC (A ++ B) = iC A ++ iC B := by unfold iC; rw [List.map_append]
theorem rd_oneG (w : World) (t : TypeId) (n : Int) (g : Nat) (h : w.heap.size = g) : Rd (w.alloc (.cells #[.int .i64 n] t)) (some ⟨g, 0, none⟩) (iC [n]) := by
  subst h
  refine Or.inr ⟨w.heap.size, 0, rfl, by simp, fun j u hj => ?_⟩
  rw [Nat.zero_add, World.cell?_alloc_at _ _ _ _ rfl, ← hj, ← Array.getElem?_toList]
  rfl
/-- A list that a function hands back. -/
def RetG (L : List Int) (w : World) (e : Ending) (w' : World) : Prop := ∃ v, e = .returned v ∧ w'.ownsRow w.heap.size 3 1 v L.length (iC L) ∧ Below w.heap.size w w'
def RetGB (L : List Int) (b : Bool) (w : World) (e : Ending) (w' : World) : Prop := ∃ v, e = .returned (.tuple #[v, .bool b]) ∧ w'.ownsRow w.heap.size 3 1 v L.length (iC L) ∧ Below w.heap.size w w'
theorem ret_ibG {a b : Int} {p q : Bool} (h : a = b) (k : p = q) : Ending.returned (.tuple #[.int .i64 a, .bool p]) = .returned (.tuple #[.int .i64 b, .bool q]) := by rw [h, k]
theorem ret_vb {v : Value} {p q : Bool} (k : p = q) : Ending.returned (.tuple #[v, .bool p]) = .returned (.tuple #[v, .bool q]) := by rw [k]

/-- Is it an area of a geography? -/
def gaB (P : List Int) (i : Int) : Bool := geB P && inB i 0 ((P.length : Int) - 1)
theorem ga_no1 {P : List Int} {i : Int} (h : geB P = false) : gaB P i = false := by unfold gaB; rw [h]; rfl
theorem ga_no2 {P : List Int} {i : Int} (h : inB i 0 ((P.length : Int) - 1) = false) : gaB P i = false := by unfold gaB; rw [h, Bool.and_false]
theorem ga_yes {P : List Int} {i : Int} (h : geB P = true) (k : inB i 0 ((P.length : Int) - 1) = true) : gaB P i = true := by unfold gaB; rw [h, k]; rfl
theorem ga_get {P : List Int} {i : Int} (h : gaB P i = true) : geB P = true ∧ ∃ k : Nat, i = (k : Int) ∧ k < P.length := by
  unfold gaB at h
  rw [Bool.and_eq_true, inB_iff] at h
  exact ⟨h.1, i.toNat, by omega, by omega⟩
theorem isArea_any (x : Option Addr) (c : Nat) (P : List Int) (i : Int) (w : World) :
    Calls Try.prog 18 #[.agg #[.slice x P.length c], .int .i64 i] w fun e w' => e = .returned (.bool (inB i 0 ((P.length : Int) - 1))) ∧ Below w.heap.size w w' := by
  by_cases h0 : 0 ≤ i
  · by_cases h1 : i < (P.length : Int)
    · have hv := Lib.hid ((inB_iff i 0 ((P.length : Int) - 1)).2 (by omega))
      go_enter Try.func18, Try.ntmps18
      go_wp2
      go_ret
      exact ⟨ret_bool hv.out.symm, (by repeat (first | exact Below.refl _ _ | assumption | refine Below.drew ?_ | refine below_drewN ?_ _ | refine Below.alloc' ?_ _ | (refine Below.setCell ?_ (by first | omega | (simp; done) | (simp; omega) | exact Below.size (by assumption) | exact Nat.le_trans (Below.size (by assumption)) (by simp)) _) | (refine Below.via' ?_ (by assumption)) | (refine Below.alloc ?_ (by first | omega | (simp; done) | (simp; omega) | exact Below.size (by assumption) | exact Nat.le_trans (Below.size (by assumption)) (by simp)) _) | (refine Below.via ?_ (by assumption) (by first | omega | (simp; done) | (simp; omega) | exact Below.size (by assumption) | exact Nat.le_trans (Below.size (by assumption)) (by simp)))))⟩
    · have hv := Lib.hid ((inB_no i 0 ((P.length : Int) - 1)).2 (by omega))
      go_enter Try.func18, Try.ntmps18
      go_wp2
      go_ret
      exact ⟨ret_bool hv.out.symm, (by repeat (first | exact Below.refl _ _ | assumption | refine Below.drew ?_ | refine below_drewN ?_ _ | refine Below.alloc' ?_ _ | (refine Below.setCell ?_ (by first | omega | (simp; done) | (simp; omega) | exact Below.size (by assumption) | exact Nat.le_trans (Below.size (by assumption)) (by simp)) _) | (refine Below.via' ?_ (by assumption)) | (refine Below.alloc ?_ (by first | omega | (simp; done) | (simp; omega) | exact Below.size (by assumption) | exact Nat.le_trans (Below.size (by assumption)) (by simp)) _) | (refine Below.via ?_ (by assumption) (by first | omega | (simp; done) | (simp; omega) | exact Below.size (by assumption) | exact Nat.le_trans (Below.size (by assumption)) (by simp)))))⟩
  · have hv := Lib.hid ((inB_no i 0 ((P.length : Int) - 1)).2 (by omega))
    go_enter Try.func18, Try.ntmps18
    go_wp2
    go_ret
    exact ⟨ret_bool hv.out.symm, (by repeat (first | exact Below.refl _ _ | assumption | refine Below.drew ?_ | refine below_drewN ?_ _ | refine Below.alloc' ?_ _ | (refine Below.setCell ?_ (by first | omega | (simp; done) | (simp; omega) | exact Below.size (by assumption) | exact Nat.le_trans (Below.size (by assumption)) (by simp)) _) | (refine Below.via' ?_ (by assumption)) | (refine Below.alloc ?_ (by first | omega | (simp; done) | (simp; omega) | exact Below.size (by assumption) | exact Nat.le_trans (Below.size (by assumption)) (by simp)) _) | (refine Below.via ?_ (by assumption) (by first | omega | (simp; done) | (simp; omega) | exact Below.size (by assumption) | exact Nat.le_trans (Below.size (by assumption)) (by simp)))))⟩
set_option maxHeartbeats 1000000 in
theorem gArea_any (x : Option Addr) (c : Nat) (P : List Int) (i : Int) (w : World) (h : IIn w x P) :
    Calls Try.prog 20 #[.agg #[.slice x P.length c], .int .i64 i] w fun e w' => e = .returned (.bool (gaB P i)) ∧ Below w.heap.size w w' := by
  have hm := h.1
  have hh := Lib.hid h
  clear h
  cases hg : geB P
  · have hv := Lib.hid (ga_no1 (i := i) hg)
    go_enter Try.func20, Try.ntmps20
    go_wp2_with fail
    refine (gGood_any _ _ _ _ (hh.out.below (by exact (by repeat (first | exact Below.refl _ _ | assumption | refine Below.drew ?_ | refine below_drewN ?_ _ | refine Below.alloc' ?_ _ | (refine Below.setCell ?_ (by first | omega | (simp; done) | (simp; omega) | exact Below.size (by assumption) | exact Nat.le_trans (Below.size (by assumption)) (by simp)) _) | (refine Below.via' ?_ (by assumption)) | (refine Below.alloc ?_ (by first | omega | (simp; done) | (simp; omega) | exact Below.size (by assumption) | exact Nat.le_trans (Below.size (by assumption)) (by simp)) _) | (refine Below.via ?_ (by assumption) (by first | omega | (simp; done) | (simp; omega) | exact Below.size (by assumption) | exact Nat.le_trans (Below.size (by assumption)) (by simp)))))))).mono ?_
    rintro e w1 ⟨rfl, hb1⟩
    rw [hg]
    go_wp2
    go_ret
    exact ⟨ret_bool hv.out.symm, (by repeat (first | exact Below.refl _ _ | assumption | refine Below.drew ?_ | refine below_drewN ?_ _ | refine Below.alloc' ?_ _ | (refine Below.setCell ?_ (by first | omega | (simp; done) | (simp; omega) | exact Below.size (by assumption) | exact Nat.le_trans (Below.size (by assumption)) (by simp)) _) | (refine Below.via' ?_ (by assumption)) | (refine Below.alloc ?_ (by first | omega | (simp; done) | (simp; omega) | exact Below.size (by assumption) | exact Nat.le_trans (Below.size (by assumption)) (by simp)) _) | (refine Below.via ?_ (by assumption) (by first | omega | (simp; done) | (simp; omega) | exact Below.size (by assumption) | exact Nat.le_trans (Below.size (by assumption)) (by simp)))))⟩
  · have hl := ge_len hg
    have hq := Lib.hid (QB.new w x P.length c 26)
    have hv := Lib.hid (show gaB P i = inB i 0 ((P.length : Int) - 1) by unfold gaB; rw [hg]; rfl)
    go_enter Try.func20, Try.ntmps20
    go_wp2_with fail
    refine (gGood_any _ _ _ _ (hh.out.below (by exact (by repeat (first | exact Below.refl _ _ | assumption | refine Below.drew ?_ | refine below_drewN ?_ _ | refine Below.alloc' ?_ _ | (refine Below.setCell ?_ (by first | omega | (simp; done) | (simp; omega) | exact Below.size (by assumption) | exact Nat.le_trans (Below.size (by assumption)) (by simp)) _) | (refine Below.via' ?_ (by assumption)) | (refine Below.alloc ?_ (by first | omega | (simp; done) | (simp; omega) | exact Below.size (by assumption) | exact Nat.le_trans (Below.size (by assumption)) (by simp)) _) | (refine Below.via ?_ (by assumption) (by first | omega | (simp; done) | (simp; omega) | exact Below.size (by assumption) | exact Nat.le_trans (Below.size (by assumption)) (by simp)))))))).mono ?_
    rintro e w1 ⟨rfl, hb1⟩
    obtain ⟨ka, kb, kc⟩ := hq.out.below hb1
    rw [hg]
    go_wp2_with (go_at_call 29; refine (l1In_any _ _ _ _).mono ?_; rintro e w2 ⟨rfl, rfl⟩)
    go_ret
    exact ⟨ret_bool hv.out.symm, (by repeat (first | exact Below.refl _ _ | assumption | refine Below.drew ?_ | refine below_drewN ?_ _ | refine Below.alloc' ?_ _ | (refine Below.setCell ?_ (by first | omega | (simp; done) | (simp; omega) | exact Below.size (by assumption) | exact Nat.le_trans (Below.size (by assumption)) (by simp)) _) | (refine Below.via' ?_ (by assumption)) | (refine Below.alloc ?_ (by first | omega | (simp; done) | (simp; omega) | exact Below.size (by assumption) | exact Nat.le_trans (Below.size (by assumption)) (by simp)) _) | (refine Below.via ?_ (by assumption) (by first | omega | (simp; done) | (simp; omega) | exact Below.size (by assumption) | exact Nat.le_trans (Below.size (by assumption)) (by simp)))))⟩

/-- Depths of the areas before i, the others 0. -/
def dpF (P : List Int) (i : Nat) : List Int := (List.range P.length).map fun j : Nat => if j < i then (dpN P j : Int) else 0
theorem dpF_len (P : List Int) (i : Nat) : (dpF P i).length = P.length := by unfold dpF; simp
theorem dpF_at {P : List Int} {i j : Nat} (h : j < P.length) : (dpF P i)[j]? = some (if j < i then (dpN P j : Int) else 0) := by unfold dpF; simp [h]
theorem dpF_one (P : List Int) : dpF P 1 = zL P.length := by
  apply List.ext_getElem?
  intro j
  by_cases h : j < P.length
  · rw [dpF_at h]
    unfold zL
    rw [List.getElem?_replicate, if_pos h]
    split
    · obtain rfl : j = 0 := by omega
      rw [dp_zero]; rfl
    · rfl
  · rw [List.getElem?_eq_none (by rw [dpF_len]; omega), List.getElem?_eq_none (by rw [zL_len]; omega)]
theorem dpF_all (P : List Int) : dpF P P.length = dpL P := by
  unfold dpF dpL
  apply List.map_congr_left
  intro j hj
  rw [if_pos (List.mem_range.1 hj)]
theorem dpF_step {P : List Int} {i p : Nat} (h : P[i]? = some (p : Int)) (hp : p < i) (hi : i < P.length) : (dpF P i).set i ((dpN P p : Int) + 1) = dpF P (i + 1) := by
  apply List.ext_getElem?
  intro j
  rw [List.getElem?_set, dpF_len]
  by_cases hj : j < P.length
  · rw [dpF_at hj, dpF_at hj]
    by_cases e : i = j
    · subst e
      rw [if_pos rfl, if_pos hi, if_pos (by omega), dp_step h hp]
      rfl
    · rw [if_neg e]
      by_cases k : j < i
      · rw [if_pos k, if_pos (by omega)]
      · rw [if_neg k, if_neg (by omega)]
  · rw [if_neg (by omega), List.getElem?_eq_none (by rw [dpF_len]; omega), List.getElem?_eq_none (by rw [dpF_len]; omega)]
theorem stepP_dp {x : Option Addr} {c g base : Nat} {P : List Int} (hg : geB P = true) {i : Nat} (h1 : 1 ≤ i) (hi : i < P.length) :
    StepP 32 x c g base P (dpF P) i (i + 1) := by
  intro W hR ho
  obtain ⟨p, hp, hpl⟩ := ge_par hg h1 hi
  have hd := dp_le hg (i := p) (by omega)
  have hl := ge_len hg
  have h := stepP_any x c g P.length base i p (dpN P p) P (dpF P i) W hp hR hi (by omega) (by rw [dpF_at (by omega), if_pos hpl]) (by omega) ho
  rw [dpF_step hp hpl hi] at h
  exact h

theorem rd_low {w : World} {x : Option Addr} {xs : List Value} (h : Rd w x xs) (hne : 0 < xs.length) : ∀ b off, x = some ⟨b, off, none⟩ → b < w.heap.size := by
  intro b off e
  rcases h with h | ⟨b2, off2, e2, hl, _⟩
  · rw [h] at hne; simp at hne
  · rw [e2] at e
    injection e with e
    injection e with e3
    omega
/-- The same row, read from below. -/
theorem own_low {w : World} {base base' e size n : Nat} {v : Value} {xs : List Value} (h : w.ownsRow base e size v n xs) (hb : base' ≤ base) : w.ownsRow base' e size v n xs := own_more h hb
set_option maxHeartbeats 2000000 in
theorem depthsOf_any (x : Option Addr) (c : Nat) (P : List Int) (w : World) (hg : geB P = true) (h : IIn w x P) :
    Calls Try.prog 22 #[.agg #[.slice x P.length c]] w (RetG (dpL P) w) := by
  have hm := h.1
  have hl := ge_len hg
  have hxl := Lib.hid (rd_low h.2.2 (by rw [iC_len]; omega))
  have hh := Lib.hid h.2.2
  have hgh := Lib.hid hg
  clear h hg
  go_enter Try.func22, Try.ntmps22
  go_wp2_with fail
  refine (newTally_any _ _ P _ hm).mono ?_
  rintro e w1 ⟨g, rfl, ho, hb1⟩
  obtain ⟨hcl1, hfr1⟩ := bcell hb1
  have hz1 := hb1.size; (try simp at hz1); (try (have hly1 := Nat.lt_of_succ_le hz1)); (try (have hlx1 := Nat.lt_of_succ_lt hly1)); (try (have hlw1 := Nat.lt_of_succ_lt hlx1)); (try (have hle1 := Nat.le_of_lt hly1))
  have hz1' : w.heap.size + 1 ≤ w1.heap.size := by have := hb1.size; simpa using this
  have hgl := own_lt ho
  have hgl1 : w.heap.size < g := by have := hgl.1; simp at this; omega
  have B1 : Below w.heap.size w w1 := (by repeat (first | exact Below.refl _ _ | assumption | refine Below.drew ?_ | refine below_drewN ?_ _ | refine Below.alloc' ?_ _ | (refine Below.setCell ?_ (by first | omega | (simp; done) | (simp; omega) | exact Below.size (by assumption) | exact Nat.le_trans (Below.size (by assumption)) (by simp)) _) | (refine Below.via' ?_ (by assumption)) | (refine Below.alloc ?_ (by first | omega | (simp; done) | (simp; omega) | exact Below.size (by assumption) | exact Nat.le_trans (Below.size (by assumption)) (by simp)) _) | (refine Below.via ?_ (by assumption) (by first | omega | (simp; done) | (simp; omega) | exact Below.size (by assumption) | exact Nat.le_trans (Below.size (by assumption)) (by simp)))))
  have hb1 := Lib.hid hb1
  have hoh := Lib.hid ho
  clear ho
  go_wp2_with fail
  refine (visitDown_dp x c g (w.heap.size + 1) P (dpF P) _ hm (by omega) ((hh.out.below B1).alloc _) (fun b off e => by have := hxl.out b off e; omega) (fun i h1 h2 => stepP_dp hgh.out h1 h2) (by rw [dpF_one]; exact (own_more hoh.out (by simp)).alloc _)).mono ?_
  rintro e w2 ⟨rfl, ho2, hg2⟩
  have hgm : g < w1.heap.size := hgl.2
  obtain ⟨ka, kb, kc⟩ := (GBt.new w1 x P.length c (some ⟨g, 0, none⟩) P.length P.length 52).grown hg2 (fun e => by injection e with e; omega)
  have B2 : Below w.heap.size w w2 := (Below.alloc' B1 _).grown hg2 (by simp; omega) (fun k hk => by injection hk with hk; omega)
  have ho2 := Lib.hid ho2
  clear hg2
  go_wp2
  go_ret
  exact ⟨_, rfl, by rw [dpL_len, ← dpF_all]; exact own_more ho2.out (by omega), B2⟩

set_option maxHeartbeats 2000000 in
theorem gDepth_any (x : Option Addr) (c : Nat) (P : List Int) (i : Nat) (w : World) (hg : geB P = true) (hi : i < P.length) (h : IIn w x P) :
    Calls Try.prog 39 #[.agg #[.slice x P.length c], .int .i64 i] w fun e w' => e = .returned (.int .i64 (dpN P i)) ∧ Below w.heap.size w w' := by
  have hm := h.1
  have hr := Lib.hid h.2.2
  have hl := ge_len hg
  have hd := dp_le hg hi
  have hgh := Lib.hid hg
  clear h hg
  go_enter Try.func39, Try.ntmps39
  go_wp2
  go_loop [1, 5] (fun a q => ∃ j m : Nat, a = .int .i64 j ∧ q = .int .i64 m ∧ j < P.length ∧ Hid (m + dpN P j = dpN P i) ∧ m ≤ 30) (fun a _ => (intOf a).toNat)
  case atStart => exact ⟨i, 0, rfl, by go_num, hi, Nat.zero_add _, by omega⟩
  case round =>
    obtain ⟨j, m, rfl, rfl, hj, hmd, hm30⟩ := hrel
    obtain ⟨b, off, v, rfl, hbl, hPj, hc0⟩ := hr.out.int (i := j) hj
    have hj0 : (0 : Int) ≤ (j : Int) := by omega
    have hj1 : (j : Int) < (P.length : Int) := by omega
    rcases Nat.eq_zero_or_pos j with e0 | e0
    · subst e0
      have hz := ge_zero hgh.out
      obtain rfl : v = -1 := Option.some.inj (hPj.symm.trans hz)
      have hv : Hid ((m : Int) = (dpN P i : Int)) := by
        have := hmd.out
        rw [dp_zero] at this
        unfold Hid
        omega
      replace hPj := Lib.hid hPj
      replace hz := Lib.hid hz
      rw [Nat.add_zero] at hc0
      have hj2 : (0 : Int) < (P.length : Int) := by omega
      clear hmd hj0 hj1
      go_wp2
      go_ret
      exact ⟨ret_int hv.out, (by repeat (first | exact Below.refl _ _ | assumption | refine Below.drew ?_ | refine below_drewN ?_ _ | refine Below.alloc' ?_ _ | (refine Below.setCell ?_ (by first | omega | (simp; done) | (simp; omega) | exact Below.size (by assumption) | exact Nat.le_trans (Below.size (by assumption)) (by simp)) _) | (refine Below.via' ?_ (by assumption)) | (refine Below.alloc ?_ (by first | omega | (simp; done) | (simp; omega) | exact Below.size (by assumption) | exact Nat.le_trans (Below.size (by assumption)) (by simp)) _) | (refine Below.via ?_ (by assumption) (by first | omega | (simp; done) | (simp; omega) | exact Below.size (by assumption) | exact Nat.le_trans (Below.size (by assumption)) (by simp)))))⟩
    · obtain ⟨p, hp, hpl⟩ := ge_par hgh.out e0 hj
      obtain rfl : v = p := Option.some.inj (hPj.symm.trans hp)
      have hs := dp_step hp hpl
      have hmd2 : Hid (m + 1 + dpN P p = dpN P i) := by
        have := hmd.out
        unfold Hid
        omega
      have hm2 : m + 1 ≤ 30 := by have := hmd.out; omega
      have hp0 : (0 : Int) ≤ (p : Int) := by omega
      clear hmd hs
      replace hPj := Lib.hid hPj
      replace hp := Lib.hid hp
      go_wp2
      go_round
      case rel => exact ⟨p, m + 1, rfl, by go_num, by omega, hmd2, hm2⟩
      case measure => simp [intOf]; omega
end Go.Proofs.Ytmefkknkahmihaa
