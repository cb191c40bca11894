import Derived.Test.YtgkaalonmkcclaaDoorPRaD
import Derived.Test.YtgkaalonmkcclaaDoorApp
import Derived.Test.YtgkaalonmkcclaaDoorPRaC
namespace Go.Proofs.YtgkaalonmkcclaaDoor
open Go.RowKit
set_option maxRecDepth 100000

theorem iC_appG (A B : List Int) : iC (A ++ B) = iC A ++ iC B := by unfold iC; rw [List.map_append]
theorem rd_oneG (w : World) (t : TypeId) (n : Int) (g : Nat) (h : w.heap.size = g) : Rd (w.alloc (.cells #[.int .i64 n] t)) (some ⟨g, 0, none⟩) (iC [n]) := by
  subst h
  refine Or.inr ⟨w.heap.size, 0, rfl, by simp, fun j u hj => ?_⟩
  rw [Nat.zero_add, World.cell?_alloc_at _ _ _ _ rfl, ← hj, ← Array.getElem?_toList]
  rfl
/-- A list that a function hands back. -/
def RetG (L : List Int) (w : World) (e : Ending) (w' : World) : Prop := ∃ v, e = .returned v ∧ w'.ownsRow w.heap.size 3 1 v L.length (iC L) ∧ Below w.heap.size w w'
def RetGB (L : List Int) (b : Bool) (w : World) (e : Ending) (w' : World) : Prop := ∃ v, e = .returned (.tuple #[v, .bool b]) ∧ w'.ownsRow w.heap.size 3 1 v L.length (iC L) ∧ Below w.heap.size w w'
theorem ret_ibG {a b : Int} {p q : Bool} (h : a = b) (k : p = q) : Ending.returned (.tuple #[.int .i64 a, .bool p]) = .returned (.tuple #[.int .i64 b, .bool q]) := by rw [h, k]
theorem ret_vb {v : Value} {p q : Bool} (k : p = q) : Ending.returned (.tuple #[v, .bool p]) = .returned (.tuple #[v, .bool q]) := by rw [k]

/-- Is it an area of a geography? -/
def gaB (P : List Int) (i : Int) : Bool := geB P && inB i 0 ((P.length : Int) - 1)
theorem ga_no1 {P : List Int} {i : Int} (h : geB P = false) : gaB P i = false := by unfold gaB; rw [h]; rfl
theorem ga_no2 {P : List Int} {i : Int} (h : inB i 0 ((P.length : Int) - 1) = false) : gaB P i = false := by unfold gaB; rw [h, Bool.and_false]
theorem ga_yes {P : List Int} {i : Int} (h : geB P = true) (k : inB i 0 ((P.length : Int) - 1) = true) : gaB P i = true := by unfold gaB; rw [h, k]; rfl
theorem ga_get {P : List Int} {i : Int} (h : gaB P i = true) : geB P = true ∧ ∃ k : Nat, i = (k : Int) ∧ k < P.length := by
  unfold gaB at h
  rw [Bool.and_eq_true, inB_iff] at h
  exact ⟨h.1, i.toNat, by omega, by omega⟩
/-- Depths of the areas before i, the others 0. -/
def dpF (P : List Int) (i : Nat) : List Int := (List.range P.length).map fun j : Nat => if j < i then (dpN P j : Int) else 0
theorem dpF_len (P : List Int) (i : Nat) : (dpF P i).length = P.length := by unfold dpF; simp
theorem dpF_at {P : List Int} {i j : Nat} (h : j < P.length) : (dpF P i)[j]? = some (if j < i then (dpN P j : Int) else 0) := by unfold dpF; simp [h]
theorem dpF_one (P : List Int) : dpF P 1 = zL P.length := by
  apply List.ext_getElem?
  intro j
  by_cases h : j < P.length
  · rw [dpF_at h]
    unfold zL
    rw [List.getElem?_replicate, if_pos h]
    split
    · obtain rfl : j = 0 := by omega
      rw [dp_zero]; rfl
    · rfl
  · rw [List.getElem?_eq_none (by rw [dpF_len]; omega), List.getElem?_eq_none (by rw [zL_len]; omega)]
theorem dpF_all (P : List Int) : dpF P P.length = dpL P := by
  unfold dpF dpL
  apply List.map_congr_left
  intro j hj
  rw [if_pos (List.mem_range.1 hj)]
theorem dpF_step {P : List Int} {i p : Nat} (h : P[i]? = some (p : Int)) (hp : p < i) (hi : i < P.length) : (dpF P i).set i ((dpN P p : Int) + 1) = dpF P (i + 1) := by
  apply List.ext_getElem?
  intro j
  rw [List.getElem?_set, dpF_len]
  by_cases hj : j < P.length
  · rw [dpF_at hj, dpF_at hj]
    by_cases e : i = j
    · subst e
      rw [if_pos rfl, if_pos hi, if_pos (by omega), dp_step h hp]
      rfl
    · rw [if_neg e]
      by_cases k : j < i
      · rw [if_pos k, if_pos (by omega)]
      · rw [if_neg k, if_neg (by omega)]
  · rw [if_neg (by omega), List.getElem?_eq_none (by rw [dpF_len]; omega), List.getElem?_eq_none (by rw [dpF_len]; omega)]
theorem stepP_dp {x : Option Addr} {c g base : Nat} {P : List Int} (hg : geB P = true) {i : Nat} (h1 : 1 ≤ i) (hi : i < P.length) :
    StepP 73 x c g base P (dpF P) i (i + 1) := by
  intro W hR ho
  obtain ⟨p, hp, hpl⟩ := ge_par hg h1 hi
  have hd := dp_le hg (i := p) (by omega)
  have hl := ge_len hg
  have h := stepP_any x c g P.length base i p (dpN P p) P (dpF P i) W hp hR hi (by omega) (by rw [dpF_at (by omega), if_pos hpl]) (by omega) ho
  rw [dpF_step hp hpl hi] at h
  exact h

theorem rd_low {w : World} {x : Option Addr} {xs : List Value} (h : Rd w x xs) (hne : 0 < xs.length) : ∀ b off, x = some ⟨b, off, none⟩ → b < w.heap.size := by
  intro b off e
  rcases h with h | ⟨b2, off2, e2, hl, _⟩
  · rw [h] at hne; simp at hne
  · rw [e2] at e
    injection e with e
    injection e with e3
    omega
/-- The same row, read from below. -/
theorem own_low {w : World} {base base' e size n : Nat} {v : Value} {xs : List Value} (h : w.ownsRow base e size v n xs) (hb : base' ≤ base) : w.ownsRow base' e size v n xs := own_more h hb
set_option maxHeartbeats 2000000 in
theorem depthsOf_any (x : Option Addr) (c : Nat) (P : List Int) (w : World) (hg : geB P = true) (h : IIn w x P) :
    Calls Tryd.prog 55 #[.agg #[.slice x P.length c]] w (RetG (dpL P) w) := by
  have hm := h.1
  have hl := ge_len hg
  have hxl := Lib.hid (rd_low h.2.2 (by rw [iC_len]; omega))
  have hh := Lib.hid h.2.2
  have hgh := Lib.hid hg
  clear h hg
  go_enter Tryd.func55, Tryd.ntmps55
  go_wp2_with fail
  refine (newTally_any _ _ P _ hm).mono ?_
  rintro e w1 ⟨g, rfl, ho, hb1⟩
  obtain ⟨hcl1, hfr1⟩ := bcell hb1
  have hz1 := hb1.size; (try simp at hz1); (try (have hly1 := Nat.lt_of_succ_le hz1)); (try (have hlx1 := Nat.lt_of_succ_lt hly1)); (try (have hlw1 := Nat.lt_of_succ_lt hlx1)); (try (have hle1 := Nat.le_of_lt hly1))
  have hz1' : w.heap.size + 1 ≤ w1.heap.size := by have := hb1.size; simpa using this
  have hgl := own_lt ho
  have hgl1 : w.heap.size < g := by have := hgl.1; simp at this; omega
  have B1 : Below w.heap.size w w1 := (by repeat (first | exact Below.refl _ _ | assumption | refine Below.drew ?_ | refine below_drewN ?_ _ | refine Below.alloc' ?_ _ | (refine Below.setCell ?_ (by first | omega | (simp; done) | (simp; omega) | exact Below.size (by assumption) | exact Nat.le_trans (Below.size (by assumption)) (by simp)) _) | (refine Below.via' ?_ (by assumption)) | (refine Below.alloc ?_ (by first | omega | (simp; done) | (simp; omega) | exact Below.size (by assumption) | exact Nat.le_trans (Below.size (by assumption)) (by simp)) _) | (refine Below.via ?_ (by assumption) (by first | omega | (simp; done) | (simp; omega) | exact Below.size (by assumption) | exact Nat.le_trans (Below.size (by assumption)) (by simp)))))
  have hb1 := Lib.hid hb1
  have hoh := Lib.hid ho
  clear ho
  go_wp2_with fail
  refine (visitDown_dp x c g (w.heap.size + 1) P (dpF P) _ hm (by omega) ((hh.out.below B1).alloc _) (fun b off e => by have := hxl.out b off e; omega) (fun i h1 h2 => stepP_dp hgh.out h1 h2) (by rw [dpF_one]; exact (own_more hoh.out (by simp)).alloc _)).mono ?_
  rintro e w2 ⟨rfl, ho2, hg2⟩
  have hgm : g < w1.heap.size := hgl.2
  obtain ⟨ka, kb, kc⟩ := (GBt.new w1 x P.length c (some ⟨g, 0, none⟩) P.length P.length 105).grown hg2 (fun e => by injection e with e; omega)
  have B2 : Below w.heap.size w w2 := (Below.alloc' B1 _).grown hg2 (by simp; omega) (fun k hk => by injection hk with hk; omega)
  have ho2 := Lib.hid ho2
  clear hg2
  go_wp2
  go_ret
  exact ⟨_, rfl, by rw [dpL_len, ← dpF_all]; exact own_more ho2.out (by omega), B2⟩

set_option maxHeartbeats 2000000 in
theorem gDepth_any (x : Option Addr) (c : Nat) (P : List Int) (i : Nat) (w : World) (hg : geB P = true) (hi : i < P.length) (h : IIn w x P) :
    Calls Tryd.prog 60 #[.agg #[.slice x P.length c], .int .i64 i] w fun e w' => e = .returned (.int .i64 (dpN P i)) ∧ Below w.heap.size w w' := by
  have hm := h.1
  have hr := Lib.hid h.2.2
  have hl := ge_len hg
  have hd := dp_le hg hi
  have hgh := Lib.hid hg
  clear h hg
  go_enter Tryd.func60, Tryd.ntmps60
  go_wp2
  go_loop [1, 5] (fun a q => ∃ j m : Nat, a = .int .i64 j ∧ q = .int .i64 m ∧ j < P.length ∧ Hid (m + dpN P j = dpN P i) ∧ m ≤ 30) (fun a _ => (intOf a).toNat)
  case atStart => exact ⟨i, 0, rfl, by go_num, hi, Nat.zero_add _, by omega⟩
  case round =>
    obtain ⟨j, m, rfl, rfl, hj, hmd, hm30⟩ := hrel
    obtain ⟨b, off, v, rfl, hbl, hPj, hc0⟩ := hr.out.int (i := j) hj
    have hj0 : (0 : Int) ≤ (j : Int) := by omega
    have hj1 : (j : Int) < (P.length : Int) := by omega
    rcases Nat.eq_zero_or_pos j with e0 | e0
    · subst e0
      have hz := ge_zero hgh.out
      obtain rfl : v = -1 := Option.some.inj (hPj.symm.trans hz)
      have hv : Hid ((m : Int) = (dpN P i : Int)) := by
        have := hmd.out
        rw [dp_zero] at this
        unfold Hid
        omega
      replace hPj := Lib.hid hPj
      replace hz := Lib.hid hz
      rw [Nat.add_zero] at hc0
      have hj2 : (0 : Int) < (P.length : Int) := by omega
      clear hmd hj0 hj1
      go_wp2
      go_ret
      exact ⟨ret_int hv.out, (by repeat (first | exact Below.refl _ _ | assumption | refine Below.drew ?_ | refine below_drewN ?_ _ | refine Below.alloc' ?_ _ | (refine Below.setCell ?_ (by first | omega | (simp; done) | (simp; omega) | exact Below.size (by assumption) | exact Nat.le_trans (Below.size (by assumption)) (by simp)) _) | (refine Below.via' ?_ (by assumption)) | (refine Below.alloc ?_ (by first | omega | (simp; done) | (simp; omega) | exact Below.size (by assumption) | exact Nat.le_trans (Below.size (by assumption)) (by simp)) _) | (refine Below.via ?_ (by assumption) (by first | omega | (simp; done) | (simp; omega) | exact Below.size (by assumption) | exact Nat.le_trans (Below.size (by assumption)) (by simp)))))⟩
    · obtain ⟨p, hp, hpl⟩ := ge_par hgh.out e0 hj
      obtain rfl : v = p := Option.some.inj (hPj.symm.trans hp)
      have hs := dp_step hp hpl
      have hmd2 : Hid (m + 1 + dpN P p = dpN P i) := by
        have := hmd.out
        unfold Hid
        omega
      have hm2 : m + 1 ≤ 30 := by have := hmd.out; omega
      have hp0 : (0 : Int) ≤ (p : Int) := by omega
      clear hmd hs
      replace hPj := Lib.hid hPj
      replace hp := Lib.hid hp
      go_wp2
      go_round
      case rel => exact ⟨p, m + 1, rfl, by go_num, by omega, hmd2, hm2⟩
      case measure => simp [intOf]; omega
end Go.Proofs.YtgkaalonmkcclaaDoor

namespace Go.Proofs.YtgkaalonmkcclaaDoor
open Go.RowKit
set_option maxRecDepth 100000

theorem own_snoc {w : World} {base e k : Nat} {u : Value} {L M : List Int} {a : Int} (h : w.ownsRow base e 1 u (L.length + 1) (iC L ++ iC [a])) (hk : M = L ++ [a]) (hn : k = M.length) : w.ownsRow base e 1 u k (iC M) := by
  subst hk hn
  rw [iC_appG, List.length_append]
  exact h
set_option maxHeartbeats 2000000 in
theorem areasWith_any (x : Option Addr) (c : Nat) (L : List Int) (n : Int) (w : World) (hm : L.length ≤ 1048576) (hL : Rd w x (iC L)) :
    Calls Tryd.prog 54 #[.slice x L.length c, .int .i64 n] w (RetG (awL L n) w) := by
  obtain ⟨i0, hii, hz0, hz1, hz2⟩ := info_parts Tryd.infoInt
  have hLh := Lib.hid hL
  clear hL
  go_enter Tryd.func54, Tryd.ntmps54
  go_wp2
  go_loopw [5, 10] (fun u q wr => ∃ i : Nat, i ≤ L.length ∧ q = .int .i64 i ∧ wr.ownsRow w.heap.size 3 1 u (selK (eqP L n) i).length (iC (selK (eqP L n) i)) ∧ Below w.heap.size w wr) (fun _ q _ => L.length - (intOf q).toNat)
  case atStart => exact ⟨0, by omega, by go_num, World.ownsRow_nil _ _ _ _, (by repeat (first | exact Below.refl _ _ | assumption | refine Below.drew ?_ | refine below_drewN ?_ _ | refine Below.alloc' ?_ _ | (refine Below.setCell ?_ (by first | omega | (simp; done) | (simp; omega) | exact Below.size (by assumption) | exact Nat.le_trans (Below.size (by assumption)) (by simp)) _) | (refine Below.via' ?_ (by assumption)) | (refine Below.alloc ?_ (by first | omega | (simp; done) | (simp; omega) | exact Below.size (by assumption) | exact Nat.le_trans (Below.size (by assumption)) (by simp)) _) | (refine Below.via ?_ (by assumption) (by first | omega | (simp; done) | (simp; omega) | exact Below.size (by assumption) | exact Nat.le_trans (Below.size (by assumption)) (by simp)))))⟩
  case round =>
    obtain ⟨i, hi, rfl, hown, hb⟩ := hrel
    have hownh := Lib.hid hown
    clear hown
    have hsl := sel_len (eqP L n) i
    by_cases hlt : i < L.length
    · obtain ⟨bl, off, v, rfl, hbl, hLi, hc0⟩ := (hLh.out.below hb).int hlt
      have hlt' : (i : Int) < (L.length : Int) := by omega
      have he := eqP_at (n := n) hLi
      replace hLi := Lib.hid hLi
      by_cases hvn : v = n
      · have ht : (v == n) = true := by rw [beq_iff_eq]; exact hvn
        have hsel := Lib.hid (sel_yes (p := eqP L n) (k := i) (by rw [he]; exact decide_eq_true hvn))
        replace hvn := Lib.hid hvn
        clear he
        have hs0 := hb.size
        go_wp2_with (at_builtin; go_loud (refine wpList_append_rd _ rfl (.tmp 18) (.tmp 20) 22 rfl (w.heap.size) 3 i0 (.int .i64 0) 1 8 Tryd.underlying22 hii hz0 hz1 hz2 rfl (by decide) _ (selK (eqP L n) i).length (iC (selK (eqP L n) i)) rfl ((hownh.out.alloc _)) _ 1 1 rfl (Nat.le_refl _) (by intro h; cases h) (iC [((i : Int) : Int)]) rfl (rd_oneG _ _ _ _ (by simp)) (iC_one _) (by unfold maxLen; omega) (by omega) (by simp; omega) ?_); intro v3 w3 hown3 hgrow3 hwhere3)
        obtain ⟨hb3, hl3⟩ := append_below hb (fun k hk => (hownh.out.lt k hk).1) hgrow3 hwhere3
        have hown3 := Lib.hid (own_snoc hown3 hsel.out rfl)
        clear hgrow3 hwhere3
        go_wp2
        go_roundw
        case rel => exact ⟨i + 1, by omega, by go_num, hown3.out, hb3⟩
        case measure => simp [intOf]; omega
      · have ht : (v == n) = false := by rw [beq_eq_false_iff_ne]; exact hvn
        have hsel := Lib.hid (sel_no (p := eqP L n) (k := i) (by rw [he]; exact decide_eq_false hvn))
        replace hvn := Lib.hid hvn
        clear he
        go_wp2
        go_roundw
        case rel => exact ⟨i + 1, by omega, by go_num, by rw [hsel.out]; exact hownh.out, hb⟩
        case measure => simp [intOf]; omega
    · have hij : i = L.length := by omega
      subst hij
      go_wp2
      go_ret
      exact ⟨_, rfl, hownh.out, hb⟩
theorem QB.rest {w1 w3 : World} {g : Nat} {y : Option Addr} {n c : Nat} {o : Obj} {r : Option Nat} (h : QB w1 g y n c) (hg : (w1.alloc o).grownBy w3 r) (hr : ∀ k, r = some k → g < k) : QB w3 g y n c :=
  (h.below ((Below.refl _ _).alloc (Nat.le_refl _) o)).grown hg (fun e => by have := hr g e.symm; omega)
set_option maxHeartbeats 4000000 in
theorem gLevel_any (x : Option Addr) (c : Nat) (P : List Int) (l : Int) (w : World) (hg : geB P = true) (h : IIn w x P) :
    Calls Tryd.prog 36 #[.agg #[.slice x P.length c], .int .i64 l] w (RetG (lvL P l) w) := by
  obtain ⟨i0, hii, hz0, hz1, hz2⟩ := info_parts Tryd.infoInt
  have hm := h.1
  have hh := Lib.hid h
  have hgh := Lib.hid hg
  have hq0 := Lib.hid (QB.new w x P.length c 33)
  clear h hg
  go_enter Tryd.func36, Tryd.ntmps36
  go_wp2
  go_loopw [5, 10] (fun u q wr => ∃ i : Nat, i ≤ P.length ∧ q = .int .i64 i ∧ wr.ownsRow (w.heap.size + 1) 3 1 u (selK (fun i => decide ((dpN P i : Int) = l)) i).length (iC (selK (fun i => decide ((dpN P i : Int) = l)) i)) ∧ QB wr w.heap.size x P.length c ∧ Below w.heap.size w wr) (fun _ q _ => P.length - (intOf q).toNat)
  case atStart => exact ⟨0, by omega, by go_num, World.ownsRow_nil _ _ _ _, hq0.out, (by repeat (first | exact Below.refl _ _ | assumption | refine Below.drew ?_ | refine below_drewN ?_ _ | refine Below.alloc' ?_ _ | (refine Below.setCell ?_ (by first | omega | (simp; done) | (simp; omega) | exact Below.size (by assumption) | exact Nat.le_trans (Below.size (by assumption)) (by simp)) _) | (refine Below.via' ?_ (by assumption)) | (refine Below.alloc ?_ (by first | omega | (simp; done) | (simp; omega) | exact Below.size (by assumption) | exact Nat.le_trans (Below.size (by assumption)) (by simp)) _) | (refine Below.via ?_ (by assumption) (by first | omega | (simp; done) | (simp; omega) | exact Below.size (by assumption) | exact Nat.le_trans (Below.size (by assumption)) (by simp)))))⟩
  case round =>
    clear hq0
    obtain ⟨i, hi, rfl, hown, hq, hb⟩ := hrel
    obtain ⟨ka, kb, kc⟩ := hq
    have hqh := Lib.hid (show QB wr w.heap.size x P.length c from ⟨ka, kb, kc⟩)
    have hownh := Lib.hid hown
    clear hown
    have hsl := sel_len (fun i => decide ((dpN P i : Int) = l)) i
    by_cases hlt : i < P.length
    · have hlt' : (i : Int) < (P.length : Int) := by omega
      go_wp2_with fail
      refine (gDepth_any _ _ P i _ hgh.out hlt (hh.out.below (by exact (by repeat (first | exact Below.refl _ _ | assumption | refine Below.drew ?_ | refine below_drewN ?_ _ | refine Below.alloc' ?_ _ | (refine Below.setCell ?_ (by first | omega | (simp; done) | (simp; omega) | exact Below.size (by assumption) | exact Nat.le_trans (Below.size (by assumption)) (by simp)) _) | (refine Below.via' ?_ (by assumption)) | (refine Below.alloc ?_ (by first | omega | (simp; done) | (simp; omega) | exact Below.size (by assumption) | exact Nat.le_trans (Below.size (by assumption)) (by simp)) _) | (refine Below.via ?_ (by assumption) (by first | omega | (simp; done) | (simp; omega) | exact Below.size (by assumption) | exact Nat.le_trans (Below.size (by assumption)) (by simp)))))))).mono ?_
      rintro e w1 ⟨rfl, hb1⟩
      have hb2 : Below w.heap.size w w1 := (by repeat (first | exact Below.refl _ _ | assumption | refine Below.drew ?_ | refine below_drewN ?_ _ | refine Below.alloc' ?_ _ | (refine Below.setCell ?_ (by first | omega | (simp; done) | (simp; omega) | exact Below.size (by assumption) | exact Nat.le_trans (Below.size (by assumption)) (by simp)) _) | (refine Below.via' ?_ (by assumption)) | (refine Below.alloc ?_ (by first | omega | (simp; done) | (simp; omega) | exact Below.size (by assumption) | exact Nat.le_trans (Below.size (by assumption)) (by simp)) _) | (refine Below.via ?_ (by assumption) (by first | omega | (simp; done) | (simp; omega) | exact Below.size (by assumption) | exact Nat.le_trans (Below.size (by assumption)) (by simp)))))
      have hq1 := Lib.hid (hqh.out.below hb1)
      have ho1 := Lib.hid (own_below hownh.out hb1)
      clear ka kb kc
      have hs0 := hb2.size
      have hs1 : w.heap.size + 1 ≤ w1.heap.size := hq1.out.2.2
      by_cases hvn : ((dpN P i : Nat) : Int) = l
      · have ht : (((dpN P i : Nat) : Int) == l) = true := by rw [beq_iff_eq]; exact hvn
        have hsel := Lib.hid (sel_yes (p := fun i => decide ((dpN P i : Int) = l)) (k := i) (decide_eq_true hvn))
        replace hvn := Lib.hid hvn
        go_wp2_with (at_builtin; go_loud (refine wpList_append_rd _ rfl (.tmp 18) (.tmp 20) 22 rfl ((w.heap.size + 1)) 3 i0 (.int .i64 0) 1 8 Tryd.underlying22 hii hz0 hz1 hz2 rfl (by decide) _ (selK (fun i => decide ((dpN P i : Int) = l)) i).length (iC (selK (fun i => decide ((dpN P i : Int) = l)) i)) rfl ((ho1.out.alloc _)) _ 1 1 rfl (Nat.le_refl _) (by intro h; cases h) (iC [((i : Int) : Int)]) rfl (rd_oneG _ _ _ _ (by simp)) (iC_one _) (by unfold maxLen; omega) (by omega) (by simp; omega) ?_); intro v3 w3 hown3 hgrow3 hwhere3)
        obtain ⟨hb3, -⟩ := append_below hb2 (fun k hk => by have := (ho1.out.lt k hk).1; omega) hgrow3 hwhere3
        have hq3 := Lib.hid (hq1.out.rest hgrow3 (fun k hk => by have := (ho1.out.lt k hk).1; omega))
        have hown3 := Lib.hid (own_snoc hown3 hsel.out rfl)
        have hb3 := Lib.hid hb3
        clear hgrow3 hwhere3
        go_wp2
        go_roundw
        case rel => exact ⟨i + 1, by omega, by go_num, hown3.out, hq3.out, hb3.out⟩
        case measure => simp [intOf]; omega
      · have ht : (((dpN P i : Nat) : Int) == l) = false := by rw [← Bool.not_eq_true]; intro e; exact hvn (by simpa using e)
        have hsel := Lib.hid (sel_no (p := fun i => decide ((dpN P i : Int) = l)) (k := i) (decide_eq_false hvn))
        replace hvn := Lib.hid hvn
        go_wp2
        go_roundw
        case rel => exact ⟨i + 1, by omega, by go_num, by rw [hsel.out]; exact ho1.out, hq1.out, hb2⟩
        case measure => simp [intOf]; omega
    · have hij : i = P.length := by omega
      subst hij
      go_wp2
      go_ret
      exact ⟨_, rfl, own_more hownh.out (by omega), hb⟩
end Go.Proofs.YtgkaalonmkcclaaDoor

namespace Go.Proofs.YtgkaalonmkcclaaDoor
open Go.RowKit
set_option maxRecDepth 100000

/-- How many children the areas have among those before i. -/
def cnF (P : List Int) (i : Nat) : List Int := (List.range P.length).map fun j : Nat => cnK P i j
theorem cnF_len (P : List Int) (i : Nat) : (cnF P i).length = P.length := by unfold cnF; simp
theorem cnF_at {P : List Int} {i j : Nat} (h : j < P.length) : (cnF P i)[j]? = some (cnK P i j) := by unfold cnF; simp [h]
theorem cnF_one {P : List Int} (hg : geB P = true) : cnF P 1 = zL P.length := by
  apply List.ext_getElem?
  intro j
  by_cases h : j < P.length
  · rw [cnF_at h, gcn_zero P hg]
    unfold zL
    rw [List.getElem?_replicate, if_pos h]
  · rw [List.getElem?_eq_none (by rw [cnF_len]; omega), List.getElem?_eq_none (by rw [zL_len]; omega)]
theorem cnF_step {P : List Int} {i p : Nat} (h : P[i]? = some (p : Int)) (hp : p < P.length) : (cnF P i).set p (cnK P i p + 1) = cnF P (i + 1) := by
  apply List.ext_getElem?
  intro j
  rw [List.getElem?_set, cnF_len]
  by_cases hj : j < P.length
  · rw [cnF_at hj, cnF_at hj]
    by_cases e : p = j
    · subst e; rw [if_pos rfl, if_pos hp, gcn_yes h]
    · rw [if_neg e, gcn_no h (fun k => e k.symm)]
  · rw [if_neg (by omega), List.getElem?_eq_none (by rw [cnF_len]; omega), List.getElem?_eq_none (by rw [cnF_len]; omega)]
theorem own_someV {w : World} {base e size n : Nat} {v : Value} {xs : List Value} (h : w.ownsRow base e size v n xs) (hn : 0 < n) : ∃ g cap, v = .slice (some ⟨g, 0, none⟩) n cap := by
  rcases h.2 with ⟨_, h2⟩ | ⟨g, cap, cur, hv, _⟩
  · omega
  · exact ⟨g, cap, hv⟩
theorem own_lit1 (w : World) (base g : Nat) (a : Int) (hg : w.heap.size = g) (hb : base ≤ g) : (w.alloc (.cells #[.int .i64 a] 3)).ownsRow base 3 1 (.slice (some ⟨g, 0, none⟩) 1 1) 1 (iC [a]) := by
  subst hg
  exact ⟨rfl, .inr ⟨w.heap.size, 1, _, rfl, hb, heap_alloc_new w _, Nat.le_refl _, by unfold maxLen; omega, rfl, rfl⟩⟩
/-- The rest of a path while it is climbed. -/
def Clm (P : List Int) (a : Int) (R : List Int) : Prop := a = -1 ∧ R = [] ∨ ∃ j : Nat, a = (j : Int) ∧ j < P.length ∧ R = upW P j
theorem clm_zero {P : List Int} : Clm P (-1) [] := Or.inl ⟨rfl, rfl⟩
theorem up_len (P : List Int) (j : Nat) : (upW P j).length = dpN P j + 1 := by have := pt_len P j; unfold ptL at this; rwa [List.length_reverse] at this
theorem upW_root {P : List Int} : upW P 0 = ((0 : Nat) : Int) :: [] := upW_zero P

end Go.Proofs.YtgkaalonmkcclaaDoor

namespace Go.Proofs.YtgkaalonmkcclaaDoor
open Go.RowKit
set_option maxRecDepth 100000

end Go.Proofs.YtgkaalonmkcclaaDoor

namespace Go.Proofs.YtgkaalonmkcclaaDoor
open Go.RowKit
set_option maxRecDepth 100000

theorem tbI64 {V F : List Int} (h : ∀ n ∈ V, IsI64 n) : ∀ n ∈ tbV V F, IsI64 n := by
  intro n hn
  unfold tbV at hn
  rw [List.mem_map] at hn
  obtain ⟨i, -, rfl⟩ := hn
  rw [List.getD_eq_getElem?_getD]
  rcases Nat.lt_or_ge i.toNat V.length with hl | hl
  · rw [List.getElem?_eq_getElem hl]; exact h _ (List.getElem_mem hl)
  · rw [List.getElem?_eq_none hl]; show IsI64 0; unfold IsI64; omega
/-- Places in a list. -/
def InP (n : Nat) (F : List Int) : Prop := F.length ≤ 6 ∧ ∀ (k : Nat) (i : Int), F[k]? = some i → 0 ≤ i ∧ i.toNat < n
theorem inP_of {S : List (ByteArray × Int)} {F : List Int} {n : Nat} (hs : schB S = true) (h : rsB S F = true) (hn : n = S.length) : InP n F := by
  have h6 := schB_len hs
  have hl := rsB_len h
  refine ⟨by omega, fun k i hk => ?_⟩
  have := rsB_bd h hk
  omega

set_option maxHeartbeats 2000000 in
theorem elemsV_any (x y : Option Addr) (c1 c2 : Nat) (S : List (ByteArray × Int)) (F : List Int) (w : World) (hp : InP S.length F) (hS : Rd w y (vC S)) (hF : Rd w x (iC F)) :
    Calls Tryd.prog 44 #[.slice y S.length c1, .slice x F.length c2] w fun e w' => e = .returned (.slice (some ⟨w.heap.size, 0, none⟩) F.length F.length) ∧ w'.ownsRow w.heap.size 52 2 (.slice (some ⟨w.heap.size, 0, none⟩) F.length F.length) F.length (vC (tbS S F)) ∧ Below w.heap.size w w' := by
  obtain ⟨i0, hi, hz0, hz1, hz2⟩ := info_parts Tryd.infoVar
  have h6 := hp.1
  have hph := Lib.hid hp.2
  have hSh := Lib.hid hS
  have hFh := Lib.hid hF
  clear hp hS hF
  have hbb : i0.bytes * F.length ≤ 281474976710656 := by rw [hz2]; omega
  have hmm : F.length ≤ maxLen := by unfold maxLen; omega
  go_enter Tryd.func44, Tryd.ntmps44
  go_wp2_with (at_make; go_loud (refine wpList_make_full _ rfl _ _ 35 rfl w.heap.size 52 i0 (.agg #[.string ⟨#[]⟩, .int .i64 0]) 2 Tryd.underlying35 hi hz0 hz1 .i64 .i64 _ _ F.length rfl rfl rfl rfl hbb hmm (Nat.le_refl _) (fun w1 hown hgrow => ?_)))
  have hb1 : Below w.heap.size w w1 := (Below.refl _ _).grown hgrow (Nat.le_refl _) (by intro k hk; cases hk)
  clear hgrow hi hz0 hz1 hz2
  go_loopw [13] (fun c wr => ∃ (i : Nat) (xs : List Value), i ≤ F.length ∧ c = .int .i64 i ∧ wr.ownsRow w.heap.size 52 2 (.slice (some ⟨w.heap.size, 0, none⟩) F.length F.length) F.length xs ∧ Hid (∀ j, j < i * 2 → xs[j]? = (vC (tbS S F))[j]?) ∧ Below w.heap.size w wr) (fun c _ => F.length - (intOf c).toNat)
  case atStart => exact ⟨0, _, by omega, rfl, hown, (fun j hj => absurd hj (by omega)), hb1⟩
  case round =>
    clear hown hb1
    obtain ⟨i, xs, hi, rfl, hown, hdone, hb⟩ := hrel
    by_cases hlt : i < F.length
    · obtain ⟨bl, off, v, rfl, hbl, hFv, hc0⟩ := (hFh.out.below hb).int hlt
      obtain ⟨p0, p1⟩ := hph.out i v hFv
      obtain ⟨n, rfl⟩ := Int.eq_ofNat_of_zero_le p0
      rw [Int.toNat_natCast] at p1
      obtain ⟨bl2, off2, nm, lv, rfl, hbl2, hSv, hc1, hc2⟩ := (hSh.out.below hb).var p1
      have hat0 := Lib.hid (vC_at0 (tbS_at (S := S) hFv (by rw [Int.toNat_natCast]; exact hSv)))
      have hat1 := Lib.hid (vC_at1 (tbS_at (S := S) hFv (by rw [Int.toNat_natCast]; exact hSv)))
      obtain ⟨u, hu, k0⟩ := own_cell hown (j := i * 2) (by omega)
      obtain ⟨u', hu', k1⟩ := own_cell hown (j := i * 2 + 1) (by omega)
      have k2 := hown.frozenAt (i * 2)
      have k3 := hown.frozenAt (i * 2 + 1)
      have k4 := (own_lt hown).2
      have hu := Lib.hid hu
      have hu' := Lib.hid hu'
      have hFv := Lib.hid hFv
      have hSv := Lib.hid hSv
      have hlt' : (i : Int) < (F.length : Int) := by omega
      have hlt2 : (n : Int) < (S.length : Int) := by omega
      go_wp2
      go_roundw
      case rel =>
        refine ⟨i + 1, _, by omega, by go_num, ((hown.stored (i * 2) (.string nm)).1.stored (i * 2 + 1) (.int .i64 lv)).1, ?_, (by repeat (first | exact Below.refl _ _ | assumption | refine Below.drew ?_ | refine below_drewN ?_ _ | refine Below.alloc' ?_ _ | (refine Below.setCell ?_ (by first | omega | (simp; done) | (simp; omega) | exact Below.size (by assumption) | exact Nat.le_trans (Below.size (by assumption)) (by simp)) _) | (refine Below.via' ?_ (by assumption)) | (refine Below.alloc ?_ (by first | omega | (simp; done) | (simp; omega) | exact Below.size (by assumption) | exact Nat.le_trans (Below.size (by assumption)) (by simp)) _) | (refine Below.via ?_ (by assumption) (by first | omega | (simp; done) | (simp; omega) | exact Below.size (by assumption) | exact Nat.le_trans (Below.size (by assumption)) (by simp)))))⟩
        intro j hj
        have hlen : xs.length = F.length * 2 := by rw [hown.1]
        rw [List.getElem?_set, List.getElem?_set]
        split
        · subst_vars
          rw [if_pos (by simp; omega), hat1.out]
        · split
          · subst_vars
            rw [if_pos (by omega), hat0.out]
          · exact hdone.out j (by omega)
      case measure => simp [intOf]; omega
    · have hij : i = F.length := by omega
      subst hij
      have hxs : xs = vC (tbS S F) := by
        have hlen : xs.length = F.length * 2 := by rw [hown.1]
        apply List.ext_getElem?
        intro j
        rcases Nat.lt_or_ge j (F.length * 2) with hj | hj
        · exact hdone.out j hj
        · rw [List.getElem?_eq_none (by omega), List.getElem?_eq_none (by rw [vC_len, tbS_len]; omega)]
      subst hxs
      have hown := Lib.hid hown
      clear hdone
      go_wp2
      go_ret
      exact ⟨rfl, hown.out, hb⟩

set_option maxHeartbeats 2000000 in
theorem sPart_any (x y : Option Addr) (c1 c2 : Nat) (S : List (ByteArray × Int)) (F : List Int) (w : World) (hp : InP S.length F) (hS : Rd w y (vC S)) (hF : Rd w x (iC F)) :
    Calls Tryd.prog 48 #[.slice y S.length c1, .slice x F.length c2] w fun e w' => ∃ u, e = .returned u ∧ w'.ownsRow w.heap.size 52 2 u (tbS S F).length (vC (tbS S F)) ∧ Below w.heap.size w w' := by
  obtain ⟨i0, hii, hz0, hz1, hz2⟩ := info_parts Tryd.infoVar
  have h6 := hp.1
  have hph := Lib.hid hp.2
  have hSh := Lib.hid hS
  have hFh := Lib.hid hF
  clear hp hS hF
  go_enter Tryd.func48, Tryd.ntmps48
  go_wp2
  go_loopw [5, 10] (fun u c wr => ∃ i : Nat, i ≤ F.length ∧ c = .int .i64 i ∧ wr.ownsRow w.heap.size 52 2 u (tbS S (F.take i)).length (vC (tbS S (F.take i))) ∧ Below w.heap.size w wr) (fun _ c _ => F.length - (intOf c).toNat)
  case atStart => exact ⟨0, by omega, rfl, World.ownsRow_nil _ _ _ _, Below.refl _ _⟩
  case round =>
    obtain ⟨i, hi, rfl, hown, hb⟩ := hrel
    have hownh := Lib.hid hown
    clear hown
    have hl : (tbS S (F.take i)).length ≤ 6 := by rw [tbS_len, List.length_take]; omega
    by_cases hlt : i < F.length
    · obtain ⟨bl, off, v, rfl, hbl, hFv, hc0⟩ := (hFh.out.below hb).int hlt
      obtain ⟨p0, p1⟩ := hph.out i v hFv
      obtain ⟨n, rfl⟩ := Int.eq_ofNat_of_zero_le p0
      rw [Int.toNat_natCast] at p1
      obtain ⟨bl2, off2, nm, lv, rfl, hbl2, hSv, hc1, hc2⟩ := (hSh.out.below hb).var p1
      have hsel := Lib.hid (tbS_snoc S hFv (by rw [Int.toNat_natCast]; exact hSv))
      have hFv := Lib.hid hFv
      have hSv := Lib.hid hSv
      have hlt' : (i : Int) < (F.length : Int) := by omega
      have hlt2 : (n : Int) < (S.length : Int) := by omega
      have hs0 := hb.size
      go_wp2_with (at_builtin; go_loud (refine wpList_append_rd _ rfl (.tmp 14) (.tmp 19) 35 rfl w.heap.size 52 i0 (.agg #[.string ⟨#[]⟩, .int .i64 0]) 2 24 Tryd.underlying35 hii hz0 hz1 hz2 rfl (by decide) _ (tbS S (F.take i)).length (vC (tbS S (F.take i))) rfl (hownh.out.alloc _) _ 1 1 rfl (Nat.le_refl _) (by intro h; cases h) (vC [(nm, lv)]) rfl (Rd.oneV _ _ _ _) (vC_one _) (by unfold maxLen; omega) (by omega) (by simp; omega) ?_); intro v3 w3 hown3 hgrow3 hwhere3)
      obtain ⟨hb3, hl3⟩ := append_below hb (fun k hk => (hownh.out.lt k hk).1) hgrow3 hwhere3
      have hown4 := Lib.hid (own_eq (n' := (tbS S (F.take i) ++ [(nm, lv)]).length) hown3 (by simp) (vC_app _ _).symm)
      clear hgrow3 hwhere3 hown3
      go_wp2
      go_roundw
      case rel => exact ⟨i + 1, by omega, by go_num, by rw [hsel.out]; exact hown4.out, hb3⟩
      case measure => simp [intOf]; omega
    · have hij : i = F.length := by omega
      subst hij
      have hown := Lib.hid (show wr.ownsRow w.heap.size 52 2 u5 (tbS S F).length (vC (tbS S F)) by have h0 := hownh.out; rwa [List.take_length] at h0)
      go_wp2
      go_ret
      exact ⟨_, rfl, hown.out, hb⟩
end Go.Proofs.YtgkaalonmkcclaaDoor
