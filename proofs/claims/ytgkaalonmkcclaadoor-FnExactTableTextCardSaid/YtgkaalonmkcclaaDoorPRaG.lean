import Derived.Test.YtgkaalonmkcclaaDoorPRaF
import Derived.Test.YtgkaalonmkcclaaDoorPRaC
import Derived.Test.YtgkaalonmkcclaaDoorPRaE
namespace Go.Proofs.YtgkaalonmkcclaaDoor
open Go.RowKit
set_option maxRecDepth 100000

/-- What IsSurvey and MeetsWhere answer. -/
def isvB (P : List Int) (S : List (ByteArray × Int)) (M : List RV) : Bool := geB P && (schB S && (dokB S M && tyB P M))
def isvK (P : List Int) (S : List (ByteArray × Int)) : Bool := geB P && schB S
def mwhK (S : List (ByteArray × Int)) (W : List Int) (r : RV) : Bool := schB S && (twB S W && rokB S r)
def mwhB (S : List (ByteArray × Int)) (W : List Int) (r : RV) : Bool := mwhK S W r && tmB W r.2.2
end Go.Proofs.YtgkaalonmkcclaaDoor

namespace Go.Proofs.YtgkaalonmkcclaaDoor
open Go.RowKit
set_option maxRecDepth 100000

theorem ret_boo {a b : Bool} (h : a = b) : Ending.returned (.bool a) = .returned (.bool b) := by rw [h]
set_option maxHeartbeats 4000000 in
theorem isTb_any (p y x z : Option Addr) (c c1 c2 c3 : Nat) (P : List Int) (S : List (ByteArray × Int)) (l : Int) (F W : List Int) (m : Int) (w : World) (hP : IIn w p P) (hS : SIn w y c1 S) (hT : TIn w x z F W) :
    Calls Tryd.prog 24 #[.agg #[.slice p P.length c], .slice y S.length c1, .agg #[.int .i64 l, .slice x F.length c2, .slice z W.length c3, .int .i64 m]] w fun e w' => e = .returned (.bool (tgB P S l F W m)) ∧ Below w.heap.size w w' := by
  have hPh := Lib.hid hP
  have hSh := Lib.hid hS
  have hFh := Lib.hid hT.1
  have hWh := Lib.hid hT.2
  clear hP hS hT
  have p1 := Lib.hid (QB.new w p P.length c 33)
  have p2 := Lib.hid (TQ.new (w.alloc (.cells #[.slice p P.length c] 33)) l x F.length c2 z W.length c3 m 37)
  obtain ⟨w0, hw0⟩ : ∃ w0, w0 = (w.alloc (.cells #[.slice p P.length c] 33)).alloc (.cells #[.int .i64 l, .slice x F.length c2, .slice z W.length c3, .int .i64 m] 37) := ⟨_, rfl⟩
  have B0 : Below w.heap.size w w0 := by rw [hw0]; exact (by repeat (first | exact Below.refl _ _ | assumption | refine Below.drew ?_ | refine below_drewN ?_ _ | refine Below.alloc' ?_ _ | (refine Below.setCell ?_ (by first | omega | (simp; done) | (simp; omega) | exact Below.size (by assumption) | exact Nat.le_trans (Below.size (by assumption)) (by simp)) _) | (refine Below.via' ?_ (by assumption)) | (refine Below.alloc ?_ (by first | omega | (simp; done) | (simp; omega) | exact Below.size (by assumption) | exact Nat.le_trans (Below.size (by assumption)) (by simp)) _) | (refine Below.via ?_ (by assumption) (by first | omega | (simp; done) | (simp; omega) | exact Below.size (by assumption) | exact Nat.le_trans (Below.size (by assumption)) (by simp)))))
  have g0 : Hid (QB w0 w.heap.size p P.length c) := by
    rw [hw0]
    exact p1.out.below (show Below (w.alloc (.cells #[.slice p P.length c] 33)).heap.size (w.alloc (.cells #[.slice p P.length c] 33)) _ from (by repeat (first | exact Below.refl _ _ | assumption | refine Below.drew ?_ | refine below_drewN ?_ _ | refine Below.alloc' ?_ _ | (refine Below.setCell ?_ (by first | omega | (simp; done) | (simp; omega) | exact Below.size (by assumption) | exact Nat.le_trans (Below.size (by assumption)) (by simp)) _) | (refine Below.via' ?_ (by assumption)) | (refine Below.alloc ?_ (by first | omega | (simp; done) | (simp; omega) | exact Below.size (by assumption) | exact Nat.le_trans (Below.size (by assumption)) (by simp)) _) | (refine Below.via ?_ (by assumption) (by first | omega | (simp; done) | (simp; omega) | exact Below.size (by assumption) | exact Nat.le_trans (Below.size (by assumption)) (by simp))))))
  have t0 : Hid (TQ w0 (w.heap.size + 1) l x F.length c2 z W.length c3 m) := by
    have h0 := p2.out
    rw [World.size_alloc, ← hw0] at h0
    exact h0
  have z0 : w0.heap.size = w.heap.size + 1 + 1 := by rw [hw0]; simp
  clear p1 p2
  go_enter Tryd.func24, Tryd.ntmps24
  go_wp2_with fail
  rw [← hw0]
  replace hw0 := Lib.hid hw0
  replace z0 := Lib.hid z0
  refine (gridOf_any p y x z _ _ _ _ P S l m F W _ (hPh.out.below B0) (hSh.out.below B0) ⟨hFh.out.below B0, hWh.out.below B0⟩).mono ?_
  rintro e w1 ⟨hb1, h1⟩
  have B1 : Below w.heap.size w w1 := Below.via' B0 hb1
  have g1 := Lib.hid (g0.out.below hb1)
  have t1 := Lib.hid (t0.out.below hb1)
  obtain ⟨ka1, kb1, kc1⟩ := g1.out
  obtain ⟨ta1, tb1, tc1, td1, te1⟩ := t1.out
  try clear ka0 kb0 kc0 ta0 tb0 tc0 td0 te0
  clear hb1
  rcases h1 with ⟨hno, rfl⟩ | ⟨htg, ga, ca, va, rfl, hA, hV, hvl⟩
  · have hv := Lib.hid (tg_no hno)
    clear hno
    go_wp2
    go_ret
    exact ⟨ret_boo hv.out.symm, (by repeat (first | exact Below.refl _ _ | assumption | refine Below.drew ?_ | refine below_drewN ?_ _ | refine Below.alloc' ?_ _ | (refine Below.setCell ?_ (by first | omega | (simp; done) | (simp; omega) | exact Below.size (by assumption) | exact Nat.le_trans (Below.size (by assumption)) (by simp)) _) | (refine Below.via' ?_ (by assumption)) | (refine Below.alloc ?_ (by first | omega | (simp; done) | (simp; omega) | exact Below.size (by assumption) | exact Nat.le_trans (Below.size (by assumption)) (by simp)) _) | (refine Below.via ?_ (by assumption) (by first | omega | (simp; done) | (simp; omega) | exact Below.size (by assumption) | exact Nat.le_trans (Below.size (by assumption)) (by simp)))))⟩
  · have hv := Lib.hid (tg_iff.2 htg)
    clear htg
    replace hA := Lib.hid hA
    replace hV := Lib.hid hV
    go_wp2
    go_ret
    exact ⟨ret_boo hv.out.symm, (by repeat (first | exact Below.refl _ _ | assumption | refine Below.drew ?_ | refine below_drewN ?_ _ | refine Below.alloc' ?_ _ | (refine Below.setCell ?_ (by first | omega | (simp; done) | (simp; omega) | exact Below.size (by assumption) | exact Nat.le_trans (Below.size (by assumption)) (by simp)) _) | (refine Below.via' ?_ (by assumption)) | (refine Below.alloc ?_ (by first | omega | (simp; done) | (simp; omega) | exact Below.size (by assumption) | exact Nat.le_trans (Below.size (by assumption)) (by simp)) _) | (refine Below.via ?_ (by assumption) (by first | omega | (simp; done) | (simp; omega) | exact Below.size (by assumption) | exact Nat.le_trans (Below.size (by assumption)) (by simp)))))⟩
end Go.Proofs.YtgkaalonmkcclaaDoor

namespace Go.Proofs.YtgkaalonmkcclaaDoor
open Go.RowKit
set_option maxRecDepth 100000

theorem tg_lv {P : List Int} {S : List (ByteArray × Int)} {l : Int} {F W : List Int} {m : Int} (h : TgP P S l F W m) : 0 ≤ l ∧ l < 30 := by
  obtain ⟨x, hx⟩ := List.exists_mem_of_length_pos h.v
  obtain ⟨a, rfl, ha, he⟩ := sel_mem.1 hx
  have hd : (dpN P a : Int) = l := of_decide_eq_true he
  have h1 := dp_le h.g ha
  have h2 := (ge_len h.g).2
  omega
theorem Rd.twoS (w : World) (t : TypeId) (a b : ByteArray) : Rd (w.alloc (.cells #[.string a, .string b] t)) (some ⟨w.heap.size, 0, none⟩) (tC [a, b]) := by
  refine Or.inr ⟨w.heap.size, 0, rfl, by simp, fun j u hj => ?_⟩
  rw [Nat.zero_add, World.cell?_alloc_at _ _ _ _ rfl, ← hj, ← Array.getElem?_toList]
  rfl
set_option maxHeartbeats 2000000 in
theorem namesText_any (x : Option Addr) (c1 : Nat) (T : List (ByteArray × Int)) (w : World) (h0 : 1 ≤ T.length) (h6 : T.length ≤ 6) (hz : ∀ p ∈ T, p.1.size ≤ 8) (hT : Rd w x (vC T)) :
    Calls Tryd.prog 43 #[.slice x T.length c1] w fun e w' => e = .returned (.string (jnS 44 (T.map (·.1)))) ∧ Below w.heap.size w w' := by
  obtain ⟨i0, hii, hz0, hz1, hz2⟩ := info_parts Tryd.infoStr
  have hTh := Lib.hid hT
  have hss : (jnS 44 (T.map (·.1))).size ≤ (T.map (·.1)).length * 9 := jnS_size (by
    intro t ht
    obtain ⟨p, hp, rfl⟩ := List.mem_map.1 ht
    have := hz p hp
    omega)
  rw [List.length_map] at hss
  have hbb : i0.bytes * T.length ≤ 281474976710656 := by rw [hz2]; omega
  have hmm : T.length ≤ maxLen := by unfold maxLen; omega
  clear hT
  go_enter Tryd.func43, Tryd.ntmps43
  go_wp2_with (at_make; go_loud (refine wpList_make_full _ rfl _ _ 72 rfl w.heap.size 9 i0 (.string ⟨#[]⟩) 1 Tryd.underlying72 hii hz0 hz1 .i64 .i64 _ _ T.length rfl rfl rfl rfl hbb hmm (Nat.le_refl _) (fun w3 hown hgrow => ?_)))
  have hb3 : Below w.heap.size w w3 := (Below.refl _ _).grown hgrow (Nat.le_refl _) (by intro k hk; cases hk)
  clear hgrow hii hz0 hz1 hz2 hbb hmm
  go_wp2
  go_loopw [11] (fun q wr => ∃ (n : Nat) (xs : List Value), n ≤ T.length ∧ q = .int .i64 n ∧ wr.ownsRow w.heap.size 9 1 (.slice (some ⟨w.heap.size, 0, none⟩) T.length T.length) T.length xs ∧ Hid (∀ j, j < n → xs[j]? = (tC (T.map (·.1)))[j]?) ∧ Below w.heap.size w wr) (fun q _ => T.length - (intOf q).toNat)
  case atStart => exact ⟨0, _, by omega, by go_num, hown, (fun j hj => absurd hj (by omega)), hb3⟩
  case round =>
    clear hown hb3
    obtain ⟨n, xs, hn, rfl, hown, hdone, hb⟩ := hrel
    by_cases hlt : n < T.length
    · obtain ⟨bl, off, nm, lv, hx2, hbl, hA, hc0, hc1⟩ := (hTh.out.below hb).var hlt
      have hlt' : (n : Int) < (T.length : Int) := by omega
      have hn0 : (0 : Int) ≤ (n : Int) := by omega
      obtain ⟨u, hu, k0⟩ := own_cell hown (j := n) (by omega)
      have k2 := hown.frozenAt n
      have k4 := (own_lt hown).2
      have hst := Lib.hid (hown.stored n (.string nm))
      have hlen : Hid (xs.length = T.length) := by have := hown.1; unfold Hid; omega
      have hx2h := Lib.hid hx2
      replace hA := Lib.hid hA
      replace hu := Lib.hid hu
      clear hown hx2
      rw [hx2h.out]
      go_wp2
      go_roundw
      case rel =>
        refine ⟨n + 1, _, by omega, by go_num, hst.out.1.alloc _, ?_, (by repeat (first | exact Below.refl _ _ | assumption | refine Below.drew ?_ | refine below_drewN ?_ _ | refine Below.alloc' ?_ _ | (refine Below.setCell ?_ (by first | omega | (simp; done) | (simp; omega) | exact Below.size (by assumption) | exact Nat.le_trans (Below.size (by assumption)) (by simp)) _) | (refine Below.via' ?_ (by assumption)) | (refine Below.alloc ?_ (by first | omega | (simp; done) | (simp; omega) | exact Below.size (by assumption) | exact Nat.le_trans (Below.size (by assumption)) (by simp)) _) | (refine Below.via ?_ (by assumption) (by first | omega | (simp; done) | (simp; omega) | exact Below.size (by assumption) | exact Nat.le_trans (Below.size (by assumption)) (by simp)))))⟩
        intro j hj
        rw [List.getElem?_set]
        split
        · subst_vars
          rw [if_pos (by rw [hlen.out]; omega)]
          unfold tC
          rw [List.getElem?_map, List.getElem?_map, hA.out]
          rfl
        · exact hdone.out j (by omega)
      case measure => simp [intOf]; omega
    · have hij : n = T.length := by omega
      subst hij
      have hxs : xs = tC (T.map (·.1)) := by
        have hlen : xs.length = T.length := by rw [hown.1]; omega
        apply List.ext_getElem?
        intro j
        rcases Nat.lt_or_ge j T.length with hj | hj
        · exact hdone.out j hj
        · rw [List.getElem?_eq_none (by omega), List.getElem?_eq_none (by rw [tC_len, List.length_map]; omega)]
      subst hxs
      have hrd := Lib.hid (Rd.of_own hown)
      have hj := join_S w.heap.size T.length 44 (T.map (·.1)) wr (by rw [List.length_map]; exact h0) (by rw [List.length_map]; omega) (by rw [List.length_map]; exact Nat.le_refl _) (by omega) hrd.out
      rw [List.length_map] at hj
      have hjh := Lib.hid hj
      clear hdone hown hj
      go_wp2_with fail
      refine hjh.out.mono ?_
      rintro e w6 ⟨rfl, hb6⟩
      go_wp2
      go_ret
      exact ⟨rfl, (by repeat (first | exact Below.refl _ _ | assumption | refine Below.drew ?_ | refine below_drewN ?_ _ | refine Below.alloc' ?_ _ | (refine Below.setCell ?_ (by first | omega | (simp; done) | (simp; omega) | exact Below.size (by assumption) | exact Nat.le_trans (Below.size (by assumption)) (by simp)) _) | (refine Below.via' ?_ (by assumption)) | (refine Below.alloc ?_ (by first | omega | (simp; done) | (simp; omega) | exact Below.size (by assumption) | exact Nat.le_trans (Below.size (by assumption)) (by simp)) _) | (refine Below.via ?_ (by assumption) (by first | omega | (simp; done) | (simp; omega) | exact Below.size (by assumption) | exact Nat.le_trans (Below.size (by assumption)) (by simp)))))⟩
set_option maxHeartbeats 4000000 in
theorem condWords_any (y z : Option Addr) (c1 c3 : Nat) (S : List (ByteArray × Int)) (W : List Int) (w : World) (hs : schB S = true) (hw : twB S W = true) (hS : SIn w y c1 S) (hW : IIn w z W) :
    Calls Tryd.prog 45 #[.slice y S.length c1, .slice z W.length c3] w fun e w' => ∃ u, e = .returned u ∧ w'.ownsRow w.heap.size 9 1 u (cwU S W S.length).length (tC (cwU S W S.length)) ∧ Below w.heap.size w w' := by
  obtain ⟨i0, hii, hz0, hz1, hz2⟩ := info_parts Tryd.infoStr
  have hSh := Lib.hid hS
  have hWh := Lib.hid hW
  have hsh := Lib.hid hs
  have hwh := Lib.hid hw
  have h6 := (schB_len hs).2
  have hlW := Lib.hid (tw_len hw)
  clear hS hW hs hw
  go_enter Tryd.func45, Tryd.ntmps45
  go_wp2
  go_loopw [5, 10] (fun u c wr => ∃ i : Nat, i ≤ S.length ∧ c = .int .i64 i ∧ wr.ownsRow w.heap.size 9 1 u (cwU S W i).length (tC (cwU S W i)) ∧ Below w.heap.size w wr) (fun _ c _ => S.length - (intOf c).toNat)
  case atStart => exact ⟨0, by omega, by go_num, World.ownsRow_nil _ _ _ _, Below.refl _ _⟩
  case round =>
    obtain ⟨i, hi, rfl, hown, hBr⟩ := hrel
    have hownh := Lib.hid hown
    have hsl := cwU_len S W i
    by_cases hlt : i < S.length
    · obtain ⟨bl, off, nm, lv, rfl, hbl, hSi, hc0, hc1⟩ := (hSh.out.rd.below hBr).var hlt
      obtain ⟨bl2, off2, v, rfl, hbl2, hWi, hc2⟩ := (hWh.out.below hBr).2.2.int (i := i) (by have := hlW.out; omega)
      obtain ⟨nm', lv', hS', l1, l2, x0, x1, x255⟩ := tw_get hsh.out hwh.out hWi
      obtain ⟨rfl, rfl⟩ : nm' = nm ∧ lv' = lv := by
        have := Option.some.inj (hS'.symm.trans hSi)
        injection this with a b
        exact ⟨a, b⟩
      have hcw := cwB_at hWi
      have hpa := Lib.hid (paS_at hSi hWi)
      have hns := name_size hsh.out hSi
      have hlt' : (i : Int) < (S.length : Int) := by omega
      have hlt2 : (i : Int) < (W.length : Int) := by have := hlW.out; omega
      have hi0 : (0 : Int) ≤ (i : Int) := by omega
      replace hSi := Lib.hid hSi
      replace hWi := Lib.hid hWi
      replace hS' := Lib.hid hS'
      clear hown
      by_cases hv0 : v = 0
      · have hvb : (v != 0) = false := by rw [hv0]; rfl
        have hsel := Lib.hid (cwU_no (S := S) (hcw.trans hvb))
        replace hv0 := Lib.hid hv0
        replace hcw := Lib.hid hcw
        go_wp2
        go_roundw
        case rel => exact ⟨i + 1, by omega, by go_num, by rw [hsel.out]; exact hownh.out.alloc _, (by repeat (first | exact Below.refl _ _ | assumption | refine Below.drew ?_ | refine below_drewN ?_ _ | refine Below.alloc' ?_ _ | (refine Below.setCell ?_ (by first | omega | (simp; done) | (simp; omega) | exact Below.size (by assumption) | exact Nat.le_trans (Below.size (by assumption)) (by simp)) _) | (refine Below.via' ?_ (by assumption)) | (refine Below.alloc ?_ (by first | omega | (simp; done) | (simp; omega) | exact Below.size (by assumption) | exact Nat.le_trans (Below.size (by assumption)) (by simp)) _) | (refine Below.via ?_ (by assumption) (by first | omega | (simp; done) | (simp; omega) | exact Below.size (by assumption) | exact Nat.le_trans (Below.size (by assumption)) (by simp)))))⟩
        case measure => simp [intOf]; omega
      · have hvb : (v != 0) = true := by simpa using hv0
        have hsel := Lib.hid (cwU_yes (S := S) (hcw.trans hvb))
        have x1' : 1 ≤ v := by omega
        replace hv0 := Lib.hid hv0
        replace hcw := Lib.hid hcw
        have hst := setT_size v
        have k1 : (⟨#[61]⟩ : ByteArray).size = 1 := rfl
        have hs1 : ¬ 9223372036854775807 < nm'.size + (⟨#[61]⟩ : ByteArray).size := by rw [k1]; omega
        have hs2 : ¬ 9223372036854775807 < (nm' ++ ⟨#[61]⟩).size + (setT v).size := by rw [ByteArray.size_append, k1]; omega
        have hs3 : ¬ 9223372036854775807 < nm'.size + 1 := by omega
        have hs4 : ¬ 9223372036854775807 < nm'.size + 1 + (setT v).size := by omega
        clear k1
        obtain ⟨wv, hwv⟩ : ∃ wv, wv = wr.alloc (.cells #[.string nm', .int .i64 lv'] 52) := ⟨_, rfl⟩
        have hV := Wb.new wr 52 #[.string nm', .int .i64 lv']
        have hbw : Below wr.heap.size wr wv := by rw [hwv]; exact Below.alloc' (Below.refl _ _) _
        rw [← hwv] at hV
        have V3 := Lib.hid hV
        have ho3 := Lib.hid (own_below hownh.out hbw)
        have hBr3 := Below.via' hBr hbw
        have hs30 := hbw.size
        have hc3 := (hbw.cell (p := ⟨bl2, off2 + i, none⟩) hbl2).trans hc2
        have r30 : wv.cell? ⟨wr.heap.size, 0, none⟩ = some (.string nm') := (V3.out.read 0).trans rfl
        have r31 : wv.cell? ⟨wr.heap.size, 1, none⟩ = some (.int .i64 lv') := (V3.out.read 1).trans rfl
        have hbl3 : bl2 < wv.heap.size := Nat.lt_of_lt_of_le hbl2 hs30
        replace hwv := Lib.hid hwv
        clear hV
        go_upto_region 6 with fail
        rw [← hwv.out]
        clear hc0 hc1 hc2 hownh
        go_region_law (first
          | (go_simp; go_at_call 62; refine (setText_any nm' lv' v _ ⟨l1, l2⟩ x1' x1).mono ?_; rintro e w4 ⟨rfl, hb4⟩; (have hb4' := below_undrewE hb4); (have O4 := Lib.hid (own_below ho3.out hb4')); (have V4 := Lib.hid (V3.out.kept hb4')); (have r40 : w4.cell? ⟨wr.heap.size, 0, none⟩ = some (.string nm') := (V4.out.read 0).trans rfl); (have r41 : w4.cell? ⟨wr.heap.size, 1, none⟩ = some (.int .i64 lv') := (V4.out.read 1).trans rfl); (have hc4 := (hb4'.cell (p := ⟨bl2, off2 + i, none⟩) hbl3).trans hc3); (have hs40 := hb4'.size); (have hB4 := hBr3.trans (hb4'.mono hBr3.size)))
          | (go_loud (refine step_append_rd _ rfl (.tmp 20) (.tmp 31) 72 rfl w.heap.size 9 i0 (.string ⟨#[]⟩) 1 16 Tryd.underlying72 hii hz0 hz1 hz2 rfl (by decide) _ (cwU S W i).length (tC (cwU S W i)) rfl (O4.out.alloc _) _ 1 1 rfl (Nat.le_refl _) (by intro h; cases h) (tC [nm' ++ ⟨#[61]⟩ ++ setT v]) rfl (Rd.oneS _ _ _) (tC_one _) (by unfold maxLen; omega) (by omega) (by simp; have := hB4.size; omega) ?_); intro v5 w5 hown5 hgrow5 hwhere5))
        all_goals
          obtain ⟨hb5, -⟩ := append_below hB4 (fun k hk => (O4.out.lt k hk).1) hgrow5 hwhere5
          have hown6 := Lib.hid (own_eq (n' := (cwU S W (i + 1)).length) (ys := tC (cwU S W (i + 1))) hown5 (by rw [hsel.out]; simp) (by rw [hsel.out, hpa.out, tC_app]; rfl))
          clear hgrow5 hwhere5 hown5 r30 r31 hc3 r40 r41 hc4 hb4 hb4'
          go_wp2
          go_roundw
          case rel => exact ⟨i + 1, by omega, by go_num, hown6.out, hb5⟩
          case measure => simp [intOf]; omega
    · have hij : i = S.length := by omega
      subst hij
      go_wp2
      go_ret
      exact ⟨_, rfl, hownh.out, hBr⟩
end Go.Proofs.YtgkaalonmkcclaaDoor

namespace Go.Proofs.YtgkaalonmkcclaaDoor
open Go.RowKit
set_option maxRecDepth 100000

theorem jnS_bound {b : UInt8} {L : List ByteArray} {c n : Nat} (h : ∀ t ∈ L, t.size + 1 ≤ c) (hn : L.length ≤ n) : (jnS b L).size ≤ n * c := Nat.le_trans (jnS_size h) (Nat.mul_le_mul_right _ hn)
theorem numZ_2 {l : Int} (h0 : 0 ≤ l) (h1 : l < 100) : (numZ l).size ≤ 2 := by
  by_cases h : l < 10
  · rw [numZ_small h0 h, byteT_len]; omega
  · rw [numZ_big h, numZ_small (by omega) (by omega), ByteArray.size_append, byteT_len, byteT_len]; omega
theorem tt_size {P : List Int} {S : List (ByteArray × Int)} {l : Int} {F W : List Int} {m : Int} (h : TgP P S l F W m) : (jnS 32 (tw3 S l F W m ++ cwU S W S.length)).size ≤ 10000000 := by
  have h6 := (schB_len h.s).2
  have hlv := tg_lv h
  have hF6 : (nsL S F).length ≤ 6 := by
    have := ptS_len (tbS_ok h.s h.r)
    unfold nsL
    rw [List.length_map]
    omega
  have hns : (jnS 44 (nsL S F)).size ≤ 6 * 9 := jnS_bound (by
    intro t ht
    obtain ⟨p, hp, rfl⟩ := List.mem_map.1 ht
    obtain ⟨k, hk, hk2⟩ := List.getElem_of_mem hp
    obtain ⟨i, hi, hSi⟩ := tbS_get h.r (k := k) (p := p) (by rw [List.getElem?_eq_getElem hk, hk2])
    have := nm_size h.s (List.mem_of_getElem? hSi)
    omega) hF6
  have hnum : (numZ l).size ≤ 2 := by
    exact numZ_2 hlv.1 (by omega)
  have hnm := naA_size h.s m.toNat
  have hall : ∀ t ∈ tw3 S l F W m ++ cwU S W S.length, t.size + 1 ≤ 60 := by
    have h0 : ∀ t ∈ tw0 S m, t.size + 1 ≤ 60 := by
      unfold tw0
      split
      · intro t ht; obtain rfl := List.mem_singleton.1 ht; decide
      · intro t ht
        rcases List.mem_cons.1 ht with rfl | ht
        · decide
        · obtain rfl := List.mem_singleton.1 ht; omega
    have h1 : ∀ t ∈ tw1 S l m, t.size + 1 ≤ 60 := by
      unfold tw1
      intro t ht
      rcases List.mem_append.1 ht with ht | ht
      · exact h0 t ht
      · rcases List.mem_cons.1 ht with rfl | ht
        · decide
        · obtain rfl := List.mem_singleton.1 ht; omega
    have h2 : ∀ t ∈ tw2 S l F m, t.size + 1 ≤ 60 := by
      unfold tw2
      split
      · exact h1
      · intro t ht
        rcases List.mem_append.1 ht with ht | ht
        · exact h1 t ht
        · rcases List.mem_cons.1 ht with rfl | ht
          · decide
          · obtain rfl := List.mem_singleton.1 ht; omega
    have h3 : ∀ t ∈ tw3 S l F W m, t.size + 1 ≤ 60 := by
      unfold tw3
      split
      · exact h2
      · intro t ht
        rcases List.mem_append.1 ht with ht | ht
        · exact h2 t ht
        · obtain rfl := List.mem_singleton.1 ht; decide
    intro t ht
    rcases List.mem_append.1 ht with ht | ht
    · exact h3 t ht
    · have := cwU_size h.s S.length t ht; omega
  have hn3 := tw3_len (S := S) (l := l) (F := F) (W := W) (m := m)
  have hnc := cwU_len S W S.length
  have := jnS_bound (b := 32) hall (n := 13) (by rw [List.length_append]; omega)
  omega
set_option maxHeartbeats 8000000 in
theorem tt000 (y x z : Option Addr) (c1 c2 c3 : Nat) (P : List Int) (S : List (ByteArray × Int)) (l : Int) (F W : List Int) (m : Int) (w : World) (htg : TgP P S l F W m) (hS : SIn w y c1 S) (hT : TIn w x z F W) (hm : Hid (m = -1)) (hF0 : Hid (F.length = 0)) (hc0 : Hid ((cwU S W S.length).length = 0)) :
    Calls Tryd.prog 25 #[.slice y S.length c1, .agg #[.int .i64 l, .slice x F.length c2, .slice z W.length c3, .int .i64 m]] w fun e w' => e = .returned (.string (ttT S l F W m)) ∧ Below w.heap.size w w' := by
  obtain ⟨i0, hii, hz0, hz1, hz2⟩ := info_parts Tryd.infoStr
  have hSh := Lib.hid hS
  have hFh := Lib.hid hT.1
  have hWh := Lib.hid hT.2
  have hth := Lib.hid htg
  have hlv := tg_lv htg
  have h6 := (schB_len htg.s).2
  have hm1 := htg.m1
  have hm0 := htg.m0
  have hjz := Lib.hid (tt_size (l := l) (F := F) (W := W) (m := m) htg)
  clear hS hT htg
  have q0 := Lib.hid (TQ.new w l x F.length c2 z W.length c3 m 37)
  have e1 : (m != -1) = false := by rw [hm.out]; rfl
  obtain ⟨wa, hwa⟩ : ∃ wa, wa = (w.alloc (.cells #[.int .i64 l, .slice x F.length c2, .slice z W.length c3, .int .i64 m] 37)).alloc (.cells #[.string ⟨#[99, 111, 117, 110, 116]⟩] 9) := ⟨_, rfl⟩
  have ow0 : wa.ownsRow (w.heap.size + 1) 9 1 (.slice (some ⟨w.heap.size + 1, 0, none⟩) 1 1) (tw0 S m).length (tC (tw0 S m)) := by
    rw [tw0_no hm.out, hwa]
    have h0 := World.ownsRow_lit (base := w.heap.size + 1) (e := 9) (size := 1) (w.alloc (.cells #[.int .i64 l, .slice x F.length c2, .slice z W.length c3, .int .i64 m] 37)) #[.string ⟨#[99, 111, 117, 110, 116]⟩] 1 (by simp) (by unfold maxLen; omega) rfl
    rw [World.size_alloc] at h0
    exact h0
  have tq0 : TQ wa w.heap.size l x F.length c2 z W.length c3 m := by rw [hwa]; exact q0.out.below (by repeat (first | exact Below.refl _ _ | assumption | refine Below.drew ?_ | refine below_drewN ?_ _ | refine Below.alloc' ?_ _ | (refine Below.setCell ?_ (by first | omega | (simp; done) | (simp; omega) | exact Below.size (by assumption) | exact Nat.le_trans (Below.size (by assumption)) (by simp)) _) | (refine Below.via' ?_ (by assumption)) | (refine Below.alloc ?_ (by first | omega | (simp; done) | (simp; omega) | exact Below.size (by assumption) | exact Nat.le_trans (Below.size (by assumption)) (by simp)) _) | (refine Below.via ?_ (by assumption) (by first | omega | (simp; done) | (simp; omega) | exact Below.size (by assumption) | exact Nat.le_trans (Below.size (by assumption)) (by simp)))))
  have hB0 : Below w.heap.size w wa := by rw [hwa]; exact (by repeat (first | exact Below.refl _ _ | assumption | refine Below.drew ?_ | refine below_drewN ?_ _ | refine Below.alloc' ?_ _ | (refine Below.setCell ?_ (by first | omega | (simp; done) | (simp; omega) | exact Below.size (by assumption) | exact Nat.le_trans (Below.size (by assumption)) (by simp)) _) | (refine Below.via' ?_ (by assumption)) | (refine Below.alloc ?_ (by first | omega | (simp; done) | (simp; omega) | exact Below.size (by assumption) | exact Nat.le_trans (Below.size (by assumption)) (by simp)) _) | (refine Below.via ?_ (by assumption) (by first | omega | (simp; done) | (simp; omega) | exact Below.size (by assumption) | exact Nat.le_trans (Below.size (by assumption)) (by simp)))))
  replace ow0 := Lib.hid ow0
  replace tq0 := Lib.hid tq0
  replace hwa := Lib.hid hwa
  have hza : w.heap.size + 1 < wa.heap.size := by rw [hwa.out]; simp
  clear q0
  go_enter Tryd.func25, Tryd.ntmps25
  go_upto_region 4 with fail
  rw [← hwa.out]
  have hft : ¬ (0 : Int) < (F.length : Int) := by have := hF0.out; omega
  have hn0 := tw0_len (S := S) (m := m)
  have hn1 := tw1_len (S := S) (l := l) (m := m)
  have hs0 := Lib.hid ow0.out.lt
  obtain ⟨t0a, t0b, t0c, t0d, t0e⟩ := tq0.out
  go_wp2_with fail
  refine (itoa_E l _ hlv.1 (by omega)).mono ?_
  rintro e w1 ⟨rfl, rfl⟩
  go_wp2_with (at_builtin; go_loud (refine wpList_append_rd _ rfl (.tmp 18) (.tmp 22) 72 rfl (w.heap.size + 1) 9 i0 (.string ⟨#[]⟩) 1 16 Tryd.underlying72 hii hz0 hz1 hz2 rfl (by decide) _ (tw0 S m).length (tC (tw0 S m)) rfl (ow0.out.alloc _) _ 2 2 rfl (Nat.le_refl _) (by intro h; cases h) (tC [wLevel, numZ l]) rfl (Rd.twoS _ _ _ _) (tC_one _) (by unfold maxLen; omega) (by omega) (by simp; omega) ?_); intro v3 w3 hown3 hgrow3 hwhere3; (have tq3 := Lib.hid ((tq0.out.below (Below.alloc' (Below.refl _ _) _)).grown hgrow3 (fun e => by have := (hs0.out _ e.symm).1; omega))); (obtain ⟨ta, tb, tc, td, te⟩ := tq3.out))
  obtain ⟨hb3, -⟩ := append_below hB0 (fun k hk => by have := (hs0.out k hk).1; omega) hgrow3 hwhere3
  have hw3 : w.heap.size + 1 ≤ w3.heap.size := by have := hgrow3.size; simp at this; omega
  have ow3 := Lib.hid (own_eq (n' := (tw1 S l m).length) (ys := tC (tw1 S l m)) hown3 (by unfold tw1; simp) (by unfold tw1; rw [tC_app]))
  clear hown3 hgrow3 hwhere3 ow0 tq0 hs0 t0a t0b t0c t0d t0e
  have ow2 : Hid (w3.ownsRow (w.heap.size + 1) 9 1 v3 (tw2 S l F m).length (tC (tw2 S l F m))) := Lib.hid (by rw [tw2_no hF0.out]; exact ow3.out)
  have tq2 := tq3
  have hB2 := hb3
  have hw2 := hw3
  obtain ⟨u2, hu2⟩ : ∃ u2, u2 = v3 := ⟨_, rfl⟩
  rw [← hu2] at ow2 ⊢
  clear ow3 tq3 hu2
  have hct : ¬ (0 : Int) < ((cwU S W S.length).length : Int) := by have := hc0.out; omega
  go_wp2_with fail
  refine (condWords_any _ _ _ _ S W _ hth.out.s hth.out.w (hSh.out.below hB2) (hWh.out.below hB2)).mono ?_
  rintro e wk ⟨u7, rfl, ho7, hb7⟩
  have hBk := Below.via' hB2 hb7
  have hkw : w.heap.size + 1 ≤ wk.heap.size := Nat.le_trans hw2 hb7.size
  obtain ⟨x7, c7, rfl, hc7, hn7⟩ := (OwR.of ho7).form
  have hrc := Lib.hid (Rd.of_own ho7)
  have ow3 : Hid (wk.ownsRow (w.heap.size + 1) 9 1 u2 (tw3 S l F W m).length (tC (tw3 S l F W m))) := Lib.hid (by rw [tw3_no hc0.out]; exact own_below ow2.out hb7)
  clear ho7 hb7 ow2 tq2 ta tb tc td te
  have hn3 := tw3_len (S := S) (l := l) (F := F) (W := W) (m := m)
  have hncw := cwU_len S W S.length
  have hjs : (jnS 32 (tw3 S l F W m ++ cwU S W S.length)).size ≤ 10000000 := hjz.out
  go_wp2_with (at_builtin; go_loud (refine wpList_append_rd _ rfl (.tmp 46) (.tmp 47) 72 rfl (w.heap.size + 1) 9 i0 (.string ⟨#[]⟩) 1 16 Tryd.underlying72 hii hz0 hz1 hz2 rfl (by decide) _ (tw3 S l F W m).length (tC (tw3 S l F W m)) rfl (ow3.out) _ (cwU S W S.length).length c7 rfl hc7 hn7 (tC (cwU S W S.length)) (by rw [tC_len, Nat.mul_one]) (hrc.out) (tC_one _) (by unfold maxLen; omega) (by omega) hkw ?_); intro v9 w9 hown9 hgrow9 hwhere9)
  have hsA := ow3.out.lt
  obtain ⟨hb9, -⟩ := append_below0 hBk (fun k hk => by have := (hsA k hk).1; omega) hgrow9 hwhere9
  have ow9 := own_eq (n' := (tw3 S l F W m ++ cwU S W S.length).length) (ys := tC (tw3 S l F W m ++ cwU S W S.length)) hown9 (by rw [List.length_append]) (tC_app _ _).symm
  obtain ⟨g9, c9, rfl⟩ := own_some2 ow9 (by rw [List.length_append]; omega)
  have hc9 : (tw3 S l F W m ++ cwU S W S.length).length ≤ c9 := by obtain ⟨a, b, e1, e2, -⟩ := (OwR.of ow9).form; injection e1 with _ _ e3; omega
  have hrd9 := Lib.hid (Rd.of_own ow9)
  have hln9 : (tw3 S l F W m ++ cwU S W S.length).length ≤ 1000 := by rw [List.length_append]; omega
  have hl19 : 1 ≤ (tw3 S l F W m ++ cwU S W S.length).length := by rw [List.length_append]; omega
  have hjn := join_S g9 c9 32 (tw3 S l F W m ++ cwU S W S.length) w9 hl19 hln9 hc9 hjs hrd9.out
  have hjnh := Lib.hid hjn
  clear hown9 hgrow9 hwhere9 ow9 hsA hjn
  go_wp2_with fail
  refine hjnh.out.mono ?_
  rintro e w10 ⟨rfl, hb10⟩
  go_wp2
  go_ret
  exact ⟨by first | rfl | (rw [← hmq.out]; rfl), Below.via' hb9 hb10⟩
set_option maxHeartbeats 8000000 in
theorem tt001 (y x z : Option Addr) (c1 c2 c3 : Nat) (P : List Int) (S : List (ByteArray × Int)) (l : Int) (F W : List Int) (m : Int) (w : World) (htg : TgP P S l F W m) (hS : SIn w y c1 S) (hT : TIn w x z F W) (hm : Hid (m = -1)) (hF0 : Hid (F.length = 0)) (hc0 : Hid ((cwU S W S.length).length ≠ 0)) :
    Calls Tryd.prog 25 #[.slice y S.length c1, .agg #[.int .i64 l, .slice x F.length c2, .slice z W.length c3, .int .i64 m]] w fun e w' => e = .returned (.string (ttT S l F W m)) ∧ Below w.heap.size w w' := by
  obtain ⟨i0, hii, hz0, hz1, hz2⟩ := info_parts Tryd.infoStr
  have hSh := Lib.hid hS
  have hFh := Lib.hid hT.1
  have hWh := Lib.hid hT.2
  have hth := Lib.hid htg
  have hlv := tg_lv htg
  have h6 := (schB_len htg.s).2
  have hm1 := htg.m1
  have hm0 := htg.m0
  have hjz := Lib.hid (tt_size (l := l) (F := F) (W := W) (m := m) htg)
  clear hS hT htg
  have q0 := Lib.hid (TQ.new w l x F.length c2 z W.length c3 m 37)
  have e1 : (m != -1) = false := by rw [hm.out]; rfl
  obtain ⟨wa, hwa⟩ : ∃ wa, wa = (w.alloc (.cells #[.int .i64 l, .slice x F.length c2, .slice z W.length c3, .int .i64 m] 37)).alloc (.cells #[.string ⟨#[99, 111, 117, 110, 116]⟩] 9) := ⟨_, rfl⟩
  have ow0 : wa.ownsRow (w.heap.size + 1) 9 1 (.slice (some ⟨w.heap.size + 1, 0, none⟩) 1 1) (tw0 S m).length (tC (tw0 S m)) := by
    rw [tw0_no hm.out, hwa]
    have h0 := World.ownsRow_lit (base := w.heap.size + 1) (e := 9) (size := 1) (w.alloc (.cells #[.int .i64 l, .slice x F.length c2, .slice z W.length c3, .int .i64 m] 37)) #[.string ⟨#[99, 111, 117, 110, 116]⟩] 1 (by simp) (by unfold maxLen; omega) rfl
    rw [World.size_alloc] at h0
    exact h0
  have tq0 : TQ wa w.heap.size l x F.length c2 z W.length c3 m := by rw [hwa]; exact q0.out.below (by repeat (first | exact Below.refl _ _ | assumption | refine Below.drew ?_ | refine below_drewN ?_ _ | refine Below.alloc' ?_ _ | (refine Below.setCell ?_ (by first | omega | (simp; done) | (simp; omega) | exact Below.size (by assumption) | exact Nat.le_trans (Below.size (by assumption)) (by simp)) _) | (refine Below.via' ?_ (by assumption)) | (refine Below.alloc ?_ (by first | omega | (simp; done) | (simp; omega) | exact Below.size (by assumption) | exact Nat.le_trans (Below.size (by assumption)) (by simp)) _) | (refine Below.via ?_ (by assumption) (by first | omega | (simp; done) | (simp; omega) | exact Below.size (by assumption) | exact Nat.le_trans (Below.size (by assumption)) (by simp)))))
  have hB0 : Below w.heap.size w wa := by rw [hwa]; exact (by repeat (first | exact Below.refl _ _ | assumption | refine Below.drew ?_ | refine below_drewN ?_ _ | refine Below.alloc' ?_ _ | (refine Below.setCell ?_ (by first | omega | (simp; done) | (simp; omega) | exact Below.size (by assumption) | exact Nat.le_trans (Below.size (by assumption)) (by simp)) _) | (refine Below.via' ?_ (by assumption)) | (refine Below.alloc ?_ (by first | omega | (simp; done) | (simp; omega) | exact Below.size (by assumption) | exact Nat.le_trans (Below.size (by assumption)) (by simp)) _) | (refine Below.via ?_ (by assumption) (by first | omega | (simp; done) | (simp; omega) | exact Below.size (by assumption) | exact Nat.le_trans (Below.size (by assumption)) (by simp)))))
  replace ow0 := Lib.hid ow0
  replace tq0 := Lib.hid tq0
  replace hwa := Lib.hid hwa
  have hza : w.heap.size + 1 < wa.heap.size := by rw [hwa.out]; simp
  clear q0
  go_enter Tryd.func25, Tryd.ntmps25
  go_upto_region 4 with fail
  rw [← hwa.out]
  have hft : ¬ (0 : Int) < (F.length : Int) := by have := hF0.out; omega
  have hn0 := tw0_len (S := S) (m := m)
  have hn1 := tw1_len (S := S) (l := l) (m := m)
  have hs0 := Lib.hid ow0.out.lt
  obtain ⟨t0a, t0b, t0c, t0d, t0e⟩ := tq0.out
  go_wp2_with fail
  refine (itoa_E l _ hlv.1 (by omega)).mono ?_
  rintro e w1 ⟨rfl, rfl⟩
  go_wp2_with (at_builtin; go_loud (refine wpList_append_rd _ rfl (.tmp 18) (.tmp 22) 72 rfl (w.heap.size + 1) 9 i0 (.string ⟨#[]⟩) 1 16 Tryd.underlying72 hii hz0 hz1 hz2 rfl (by decide) _ (tw0 S m).length (tC (tw0 S m)) rfl (ow0.out.alloc _) _ 2 2 rfl (Nat.le_refl _) (by intro h; cases h) (tC [wLevel, numZ l]) rfl (Rd.twoS _ _ _ _) (tC_one _) (by unfold maxLen; omega) (by omega) (by simp; omega) ?_); intro v3 w3 hown3 hgrow3 hwhere3; (have tq3 := Lib.hid ((tq0.out.below (Below.alloc' (Below.refl _ _) _)).grown hgrow3 (fun e => by have := (hs0.out _ e.symm).1; omega))); (obtain ⟨ta, tb, tc, td, te⟩ := tq3.out))
  obtain ⟨hb3, -⟩ := append_below hB0 (fun k hk => by have := (hs0.out k hk).1; omega) hgrow3 hwhere3
  have hw3 : w.heap.size + 1 ≤ w3.heap.size := by have := hgrow3.size; simp at this; omega
  have ow3 := Lib.hid (own_eq (n' := (tw1 S l m).length) (ys := tC (tw1 S l m)) hown3 (by unfold tw1; simp) (by unfold tw1; rw [tC_app]))
  clear hown3 hgrow3 hwhere3 ow0 tq0 hs0 t0a t0b t0c t0d t0e
  have ow2 : Hid (w3.ownsRow (w.heap.size + 1) 9 1 v3 (tw2 S l F m).length (tC (tw2 S l F m))) := Lib.hid (by rw [tw2_no hF0.out]; exact ow3.out)
  have tq2 := tq3
  have hB2 := hb3
  have hw2 := hw3
  obtain ⟨u2, hu2⟩ : ∃ u2, u2 = v3 := ⟨_, rfl⟩
  rw [← hu2] at ow2 ⊢
  clear ow3 tq3 hu2
  have hct : (0 : Int) < ((cwU S W S.length).length : Int) := by have := hc0.out; omega
  have hn2 := tw2_len (S := S) (l := l) (F := F) (m := m)
  go_wp2_with fail
  refine (condWords_any _ _ _ _ S W _ hth.out.s hth.out.w (hSh.out.below hB2) (hWh.out.below hB2)).mono ?_
  rintro e wj ⟨u7, rfl, ho7, hb7⟩
  have hBj := Below.via' hB2 hb7
  have hjw : w.heap.size + 1 ≤ wj.heap.size := Nat.le_trans hw2 hb7.size
  obtain ⟨x7, c7, rfl, hc7, hn7⟩ := (OwR.of ho7).form
  have hrj := Lib.hid (OwR.of ho7)
  have owk := Lib.hid (own_below ow2.out hb7)
  have hsk := Lib.hid owk.out.lt
  have hs2k := Lib.hid ow2.out.lt
  clear ho7 ow2 tq2 ta tb tc td te
  have hn3 := tw3_len (S := S) (l := l) (F := F) (W := W) (m := m)
  have hncw := cwU_len S W S.length
  have hjs : (jnS 32 (tw3 S l F W m ++ cwU S W S.length)).size ≤ 10000000 := hjz.out
  go_wp2_with (first | (at_builtin; go_loud (refine wpList_append_rd _ rfl (.tmp 43) (.tmp 44) 72 rfl (w.heap.size + 1) 9 i0 (.string ⟨#[]⟩) 1 16 Tryd.underlying72 hii hz0 hz1 hz2 rfl (by decide) _ (tw2 S l F m).length (tC (tw2 S l F m)) rfl (owk.out.alloc _) _ 1 1 rfl (Nat.le_refl _) (by intro h; cases h) (tC [wWhere]) rfl (Rd.oneS _ _ _) (tC_one _) (by unfold maxLen; omega) (by omega) (by simp; omega) ?_); intro v3 w3 hown3 hgrow3 hwhere3; (have hkw : w.heap.size + 1 ≤ w3.heap.size := by have := hgrow3.size; simp at this; omega); (have ow3 := Lib.hid (own_eq (n' := (tw3 S l F W m).length) (ys := tC (tw3 S l F W m)) hown3 (by rw [tw3_yes hc0.out]; simp) (by rw [tw3_yes hc0.out, tC_app]))); (have hrc := Lib.hid (((hrj.out.below (Below.alloc' (Below.refl _ _) _)).keep hgrow3 (fun k hk => by have := (hs2k.out k hk).2; exact Or.inl (by omega))).rd))) | (at_builtin; go_loud (refine wpList_append_rd _ rfl (.tmp 46) (.tmp 47) 72 rfl (w.heap.size + 1) 9 i0 (.string ⟨#[]⟩) 1 16 Tryd.underlying72 hii hz0 hz1 hz2 rfl (by decide) _ (tw3 S l F W m).length (tC (tw3 S l F W m)) rfl (ow3.out) _ (cwU S W S.length).length c7 rfl hc7 hn7 (tC (cwU S W S.length)) (by rw [tC_len, Nat.mul_one]) (hrc.out) (tC_one _) (by unfold maxLen; omega) (by omega) hkw ?_); intro v9 w9 hown9 hgrow9 hwhere9))
  obtain ⟨hBk, -⟩ := append_below hBj (fun k hk => by have := (hsk.out k hk).1; omega) hgrow3 hwhere3
  clear hown3 hgrow3 hwhere3 owk hsk hs2k hrj hb7
  have hsA := ow3.out.lt
  obtain ⟨hb9, -⟩ := append_below0 hBk (fun k hk => by have := (hsA k hk).1; omega) hgrow9 hwhere9
  have ow9 := own_eq (n' := (tw3 S l F W m ++ cwU S W S.length).length) (ys := tC (tw3 S l F W m ++ cwU S W S.length)) hown9 (by rw [List.length_append]) (tC_app _ _).symm
  obtain ⟨g9, c9, rfl⟩ := own_some2 ow9 (by rw [List.length_append]; omega)
  have hc9 : (tw3 S l F W m ++ cwU S W S.length).length ≤ c9 := by obtain ⟨a, b, e1, e2, -⟩ := (OwR.of ow9).form; injection e1 with _ _ e3; omega
  have hrd9 := Lib.hid (Rd.of_own ow9)
  have hln9 : (tw3 S l F W m ++ cwU S W S.length).length ≤ 1000 := by rw [List.length_append]; omega
  have hl19 : 1 ≤ (tw3 S l F W m ++ cwU S W S.length).length := by rw [List.length_append]; omega
  have hjn := join_S g9 c9 32 (tw3 S l F W m ++ cwU S W S.length) w9 hl19 hln9 hc9 hjs hrd9.out
  have hjnh := Lib.hid hjn
  clear hown9 hgrow9 hwhere9 ow9 hsA hjn
  go_wp2_with fail
  refine hjnh.out.mono ?_
  rintro e w10 ⟨rfl, hb10⟩
  go_wp2
  go_ret
  exact ⟨by first | rfl | (rw [← hmq.out]; rfl), Below.via' hb9 hb10⟩
set_option maxHeartbeats 8000000 in
theorem tt010 (y x z : Option Addr) (c1 c2 c3 : Nat) (P : List Int) (S : List (ByteArray × Int)) (l : Int) (F W : List Int) (m : Int) (w : World) (htg : TgP P S l F W m) (hS : SIn w y c1 S) (hT : TIn w x z F W) (hm : Hid (m = -1)) (hF0 : Hid (F.length ≠ 0)) (hc0 : Hid ((cwU S W S.length).length = 0)) :
    Calls Tryd.prog 25 #[.slice y S.length c1, .agg #[.int .i64 l, .slice x F.length c2, .slice z W.length c3, .int .i64 m]] w fun e w' => e = .returned (.string (ttT S l F W m)) ∧ Below w.heap.size w w' := by
  obtain ⟨i0, hii, hz0, hz1, hz2⟩ := info_parts Tryd.infoStr
  have hSh := Lib.hid hS
  have hFh := Lib.hid hT.1
  have hWh := Lib.hid hT.2
  have hth := Lib.hid htg
  have hlv := tg_lv htg
  have h6 := (schB_len htg.s).2
  have hm1 := htg.m1
  have hm0 := htg.m0
  have hjz := Lib.hid (tt_size (l := l) (F := F) (W := W) (m := m) htg)
  clear hS hT htg
  have q0 := Lib.hid (TQ.new w l x F.length c2 z W.length c3 m 37)
  have e1 : (m != -1) = false := by rw [hm.out]; rfl
  obtain ⟨wa, hwa⟩ : ∃ wa, wa = (w.alloc (.cells #[.int .i64 l, .slice x F.length c2, .slice z W.length c3, .int .i64 m] 37)).alloc (.cells #[.string ⟨#[99, 111, 117, 110, 116]⟩] 9) := ⟨_, rfl⟩
  have ow0 : wa.ownsRow (w.heap.size + 1) 9 1 (.slice (some ⟨w.heap.size + 1, 0, none⟩) 1 1) (tw0 S m).length (tC (tw0 S m)) := by
    rw [tw0_no hm.out, hwa]
    have h0 := World.ownsRow_lit (base := w.heap.size + 1) (e := 9) (size := 1) (w.alloc (.cells #[.int .i64 l, .slice x F.length c2, .slice z W.length c3, .int .i64 m] 37)) #[.string ⟨#[99, 111, 117, 110, 116]⟩] 1 (by simp) (by unfold maxLen; omega) rfl
    rw [World.size_alloc] at h0
    exact h0
  have tq0 : TQ wa w.heap.size l x F.length c2 z W.length c3 m := by rw [hwa]; exact q0.out.below (by repeat (first | exact Below.refl _ _ | assumption | refine Below.drew ?_ | refine below_drewN ?_ _ | refine Below.alloc' ?_ _ | (refine Below.setCell ?_ (by first | omega | (simp; done) | (simp; omega) | exact Below.size (by assumption) | exact Nat.le_trans (Below.size (by assumption)) (by simp)) _) | (refine Below.via' ?_ (by assumption)) | (refine Below.alloc ?_ (by first | omega | (simp; done) | (simp; omega) | exact Below.size (by assumption) | exact Nat.le_trans (Below.size (by assumption)) (by simp)) _) | (refine Below.via ?_ (by assumption) (by first | omega | (simp; done) | (simp; omega) | exact Below.size (by assumption) | exact Nat.le_trans (Below.size (by assumption)) (by simp)))))
  have hB0 : Below w.heap.size w wa := by rw [hwa]; exact (by repeat (first | exact Below.refl _ _ | assumption | refine Below.drew ?_ | refine below_drewN ?_ _ | refine Below.alloc' ?_ _ | (refine Below.setCell ?_ (by first | omega | (simp; done) | (simp; omega) | exact Below.size (by assumption) | exact Nat.le_trans (Below.size (by assumption)) (by simp)) _) | (refine Below.via' ?_ (by assumption)) | (refine Below.alloc ?_ (by first | omega | (simp; done) | (simp; omega) | exact Below.size (by assumption) | exact Nat.le_trans (Below.size (by assumption)) (by simp)) _) | (refine Below.via ?_ (by assumption) (by first | omega | (simp; done) | (simp; omega) | exact Below.size (by assumption) | exact Nat.le_trans (Below.size (by assumption)) (by simp)))))
  replace ow0 := Lib.hid ow0
  replace tq0 := Lib.hid tq0
  replace hwa := Lib.hid hwa
  have hza : w.heap.size + 1 < wa.heap.size := by rw [hwa.out]; simp
  clear q0
  go_enter Tryd.func25, Tryd.ntmps25
  go_upto_region 4 with fail
  rw [← hwa.out]
  have hft : (0 : Int) < (F.length : Int) := by have := hF0.out; omega
  have hn0 := tw0_len (S := S) (m := m)
  have hn1 := tw1_len (S := S) (l := l) (m := m)
  have hs0 := Lib.hid ow0.out.lt
  obtain ⟨t0a, t0b, t0c, t0d, t0e⟩ := tq0.out
  go_wp2_with fail
  refine (itoa_E l _ hlv.1 (by omega)).mono ?_
  rintro e w1 ⟨rfl, rfl⟩
  go_wp2_with (at_builtin; go_loud (refine wpList_append_rd _ rfl (.tmp 18) (.tmp 22) 72 rfl (w.heap.size + 1) 9 i0 (.string ⟨#[]⟩) 1 16 Tryd.underlying72 hii hz0 hz1 hz2 rfl (by decide) _ (tw0 S m).length (tC (tw0 S m)) rfl (ow0.out.alloc _) _ 2 2 rfl (Nat.le_refl _) (by intro h; cases h) (tC [wLevel, numZ l]) rfl (Rd.twoS _ _ _ _) (tC_one _) (by unfold maxLen; omega) (by omega) (by simp; omega) ?_); intro v3 w3 hown3 hgrow3 hwhere3; (have tq3 := Lib.hid ((tq0.out.below (Below.alloc' (Below.refl _ _) _)).grown hgrow3 (fun e => by have := (hs0.out _ e.symm).1; omega))); (obtain ⟨ta, tb, tc, td, te⟩ := tq3.out))
  obtain ⟨hb3, -⟩ := append_below hB0 (fun k hk => by have := (hs0.out k hk).1; omega) hgrow3 hwhere3
  have hw3 : w.heap.size + 1 ≤ w3.heap.size := by have := hgrow3.size; simp at this; omega
  have ow3 := Lib.hid (own_eq (n' := (tw1 S l m).length) (ys := tC (tw1 S l m)) hown3 (by unfold tw1; simp) (by unfold tw1; rw [tC_app]))
  clear hown3 hgrow3 hwhere3 ow0 tq0 hs0 t0a t0b t0c t0d t0e
  have hnF := ptS_len (tbS_ok hth.out.s hth.out.r)
  have hnT := tbS_len S F
  have hip := Lib.hid (inP_of hth.out.s hth.out.r rfl)
  go_wp2_with fail
  refine (elemsV_any _ _ _ _ S F _ hip.out (hSh.out.rd.below hb3) (hFh.out.below hb3).2.2).mono ?_
  rintro e w4 ⟨rfl, hoE, hb4⟩
  have hB4 := Below.via' hb3 hb4
  have hw4 : w.heap.size + 1 ≤ w4.heap.size := Nat.le_trans hw3 hb4.size
  have hn := namesText_any (some ⟨w3.heap.size, 0, none⟩) F.length (tbS S F) w4 (by have := hF0.out; omega) (by omega) (fun p hp => by
    obtain ⟨k, hk, hk2⟩ := List.getElem_of_mem hp
    obtain ⟨i, hi, hSi⟩ := tbS_get hth.out.r (k := k) (p := p) (by rw [List.getElem?_eq_getElem hk, hk2])
    exact nm_size hth.out.s (List.mem_of_getElem? hSi)) (Rd.of_own hoE)
  rw [tbS_len] at hn
  have hnh := Lib.hid hn
  clear hoE hn
  go_wp2_with fail
  refine hnh.out.mono ?_
  rintro e w5 ⟨rfl, hb5⟩
  have hB5 := Below.via' hB4 hb5
  have hw5 : w.heap.size + 1 ≤ w5.heap.size := Nat.le_trans hw4 hb5.size
  have ow5 := Lib.hid (own_below (own_below ow3.out hb4) hb5)
  have tq5 := Lib.hid ((tq3.out.below hb4).below hb5)
  have hs5 := Lib.hid ow5.out.lt
  have hn2 := tw2_len (S := S) (l := l) (F := F) (m := m)
  clear ow3 tq3 ta tb tc td te hb4 hb5 hnh
  obtain ⟨t5a, t5b, t5c, t5d, t5e⟩ := tq5.out
  obtain ⟨vv, hvv⟩ : ∃ vv, vv = v3 := ⟨_, rfl⟩
  rw [← hvv] at ow5 hs5 ⊢
  clear hvv
  go_wp2_with (at_builtin; go_loud (refine wpList_append_rd _ rfl (.tmp 28) (.tmp 34) 72 rfl (w.heap.size + 1) 9 i0 (.string ⟨#[]⟩) 1 16 Tryd.underlying72 hii hz0 hz1 hz2 rfl (by decide) _ (tw1 S l m).length (tC (tw1 S l m)) rfl (ow5.out.alloc _) _ 2 2 rfl (Nat.le_refl _) (by intro h; cases h) (tC [wBy, jnS 44 (nsL S F)]) rfl (Rd.twoS _ _ _ _) (tC_one _) (by unfold maxLen; omega) (by omega) (by simp; omega) ?_); intro v6 w6 hown6 hgrow6 hwhere6; (have tq2 := Lib.hid ((tq5.out.below (Below.alloc' (Below.refl _ _) _)).grown hgrow6 (fun e => by have := (hs5.out _ e.symm).1; omega))); (obtain ⟨ta, tb, tc, td, te⟩ := tq2.out))
  obtain ⟨hB2, -⟩ := append_below hB5 (fun k hk => by have := (hs5.out k hk).1; omega) hgrow6 hwhere6
  have hw2 : w.heap.size + 1 ≤ w6.heap.size := by have := hgrow6.size; simp at this; omega
  have ow2 := Lib.hid (own_eq (n' := (tw2 S l F m).length) (ys := tC (tw2 S l F m)) hown6 (by rw [tw2_yes hF0.out]; simp) (by rw [tw2_yes hF0.out, tC_app]))
  obtain ⟨u2, hu2⟩ : ∃ u2, u2 = v6 := ⟨_, rfl⟩
  rw [← hu2] at ow2 ⊢
  clear hown6 hgrow6 hwhere6 ow5 tq5 hs5 hu2 t5a t5b t5c t5d t5e
  have hct : ¬ (0 : Int) < ((cwU S W S.length).length : Int) := by have := hc0.out; omega
  go_wp2_with fail
  refine (condWords_any _ _ _ _ S W _ hth.out.s hth.out.w (hSh.out.below hB2) (hWh.out.below hB2)).mono ?_
  rintro e wk ⟨u7, rfl, ho7, hb7⟩
  have hBk := Below.via' hB2 hb7
  have hkw : w.heap.size + 1 ≤ wk.heap.size := Nat.le_trans hw2 hb7.size
  obtain ⟨x7, c7, rfl, hc7, hn7⟩ := (OwR.of ho7).form
  have hrc := Lib.hid (Rd.of_own ho7)
  have ow3 : Hid (wk.ownsRow (w.heap.size + 1) 9 1 u2 (tw3 S l F W m).length (tC (tw3 S l F W m))) := Lib.hid (by rw [tw3_no hc0.out]; exact own_below ow2.out hb7)
  clear ho7 hb7 ow2 tq2 ta tb tc td te
  have hn3 := tw3_len (S := S) (l := l) (F := F) (W := W) (m := m)
  have hncw := cwU_len S W S.length
  have hjs : (jnS 32 (tw3 S l F W m ++ cwU S W S.length)).size ≤ 10000000 := hjz.out
  go_wp2_with (at_builtin; go_loud (refine wpList_append_rd _ rfl (.tmp 46) (.tmp 47) 72 rfl (w.heap.size + 1) 9 i0 (.string ⟨#[]⟩) 1 16 Tryd.underlying72 hii hz0 hz1 hz2 rfl (by decide) _ (tw3 S l F W m).length (tC (tw3 S l F W m)) rfl (ow3.out) _ (cwU S W S.length).length c7 rfl hc7 hn7 (tC (cwU S W S.length)) (by rw [tC_len, Nat.mul_one]) (hrc.out) (tC_one _) (by unfold maxLen; omega) (by omega) hkw ?_); intro v9 w9 hown9 hgrow9 hwhere9)
  have hsA := ow3.out.lt
  obtain ⟨hb9, -⟩ := append_below0 hBk (fun k hk => by have := (hsA k hk).1; omega) hgrow9 hwhere9
  have ow9 := own_eq (n' := (tw3 S l F W m ++ cwU S W S.length).length) (ys := tC (tw3 S l F W m ++ cwU S W S.length)) hown9 (by rw [List.length_append]) (tC_app _ _).symm
  obtain ⟨g9, c9, rfl⟩ := own_some2 ow9 (by rw [List.length_append]; omega)
  have hc9 : (tw3 S l F W m ++ cwU S W S.length).length ≤ c9 := by obtain ⟨a, b, e1, e2, -⟩ := (OwR.of ow9).form; injection e1 with _ _ e3; omega
  have hrd9 := Lib.hid (Rd.of_own ow9)
  have hln9 : (tw3 S l F W m ++ cwU S W S.length).length ≤ 1000 := by rw [List.length_append]; omega
  have hl19 : 1 ≤ (tw3 S l F W m ++ cwU S W S.length).length := by rw [List.length_append]; omega
  have hjn := join_S g9 c9 32 (tw3 S l F W m ++ cwU S W S.length) w9 hl19 hln9 hc9 hjs hrd9.out
  have hjnh := Lib.hid hjn
  clear hown9 hgrow9 hwhere9 ow9 hsA hjn
  go_wp2_with fail
  refine hjnh.out.mono ?_
  rintro e w10 ⟨rfl, hb10⟩
  go_wp2
  go_ret
  exact ⟨by first | rfl | (rw [← hmq.out]; rfl), Below.via' hb9 hb10⟩
set_option maxHeartbeats 8000000 in
theorem tt011 (y x z : Option Addr) (c1 c2 c3 : Nat) (P : List Int) (S : List (ByteArray × Int)) (l : Int) (F W : List Int) (m : Int) (w : World) (htg : TgP P S l F W m) (hS : SIn w y c1 S) (hT : TIn w x z F W) (hm : Hid (m = -1)) (hF0 : Hid (F.length ≠ 0)) (hc0 : Hid ((cwU S W S.length).length ≠ 0)) :
    Calls Tryd.prog 25 #[.slice y S.length c1, .agg #[.int .i64 l, .slice x F.length c2, .slice z W.length c3, .int .i64 m]] w fun e w' => e = .returned (.string (ttT S l F W m)) ∧ Below w.heap.size w w' := by
  obtain ⟨i0, hii, hz0, hz1, hz2⟩ := info_parts Tryd.infoStr
  have hSh := Lib.hid hS
  have hFh := Lib.hid hT.1
  have hWh := Lib.hid hT.2
  have hth := Lib.hid htg
  have hlv := tg_lv htg
  have h6 := (schB_len htg.s).2
  have hm1 := htg.m1
  have hm0 := htg.m0
  have hjz := Lib.hid (tt_size (l := l) (F := F) (W := W) (m := m) htg)
  clear hS hT htg
  have q0 := Lib.hid (TQ.new w l x F.length c2 z W.length c3 m 37)
  have e1 : (m != -1) = false := by rw [hm.out]; rfl
  obtain ⟨wa, hwa⟩ : ∃ wa, wa = (w.alloc (.cells #[.int .i64 l, .slice x F.length c2, .slice z W.length c3, .int .i64 m] 37)).alloc (.cells #[.string ⟨#[99, 111, 117, 110, 116]⟩] 9) := ⟨_, rfl⟩
  have ow0 : wa.ownsRow (w.heap.size + 1) 9 1 (.slice (some ⟨w.heap.size + 1, 0, none⟩) 1 1) (tw0 S m).length (tC (tw0 S m)) := by
    rw [tw0_no hm.out, hwa]
    have h0 := World.ownsRow_lit (base := w.heap.size + 1) (e := 9) (size := 1) (w.alloc (.cells #[.int .i64 l, .slice x F.length c2, .slice z W.length c3, .int .i64 m] 37)) #[.string ⟨#[99, 111, 117, 110, 116]⟩] 1 (by simp) (by unfold maxLen; omega) rfl
    rw [World.size_alloc] at h0
    exact h0
  have tq0 : TQ wa w.heap.size l x F.length c2 z W.length c3 m := by rw [hwa]; exact q0.out.below (by repeat (first | exact Below.refl _ _ | assumption | refine Below.drew ?_ | refine below_drewN ?_ _ | refine Below.alloc' ?_ _ | (refine Below.setCell ?_ (by first | omega | (simp; done) | (simp; omega) | exact Below.size (by assumption) | exact Nat.le_trans (Below.size (by assumption)) (by simp)) _) | (refine Below.via' ?_ (by assumption)) | (refine Below.alloc ?_ (by first | omega | (simp; done) | (simp; omega) | exact Below.size (by assumption) | exact Nat.le_trans (Below.size (by assumption)) (by simp)) _) | (refine Below.via ?_ (by assumption) (by first | omega | (simp; done) | (simp; omega) | exact Below.size (by assumption) | exact Nat.le_trans (Below.size (by assumption)) (by simp)))))
  have hB0 : Below w.heap.size w wa := by rw [hwa]; exact (by repeat (first | exact Below.refl _ _ | assumption | refine Below.drew ?_ | refine below_drewN ?_ _ | refine Below.alloc' ?_ _ | (refine Below.setCell ?_ (by first | omega | (simp; done) | (simp; omega) | exact Below.size (by assumption) | exact Nat.le_trans (Below.size (by assumption)) (by simp)) _) | (refine Below.via' ?_ (by assumption)) | (refine Below.alloc ?_ (by first | omega | (simp; done) | (simp; omega) | exact Below.size (by assumption) | exact Nat.le_trans (Below.size (by assumption)) (by simp)) _) | (refine Below.via ?_ (by assumption) (by first | omega | (simp; done) | (simp; omega) | exact Below.size (by assumption) | exact Nat.le_trans (Below.size (by assumption)) (by simp)))))
  replace ow0 := Lib.hid ow0
  replace tq0 := Lib.hid tq0
  replace hwa := Lib.hid hwa
  have hza : w.heap.size + 1 < wa.heap.size := by rw [hwa.out]; simp
  clear q0
  go_enter Tryd.func25, Tryd.ntmps25
  go_upto_region 4 with fail
  rw [← hwa.out]
  have hft : (0 : Int) < (F.length : Int) := by have := hF0.out; omega
  have hn0 := tw0_len (S := S) (m := m)
  have hn1 := tw1_len (S := S) (l := l) (m := m)
  have hs0 := Lib.hid ow0.out.lt
  obtain ⟨t0a, t0b, t0c, t0d, t0e⟩ := tq0.out
  go_wp2_with fail
  refine (itoa_E l _ hlv.1 (by omega)).mono ?_
  rintro e w1 ⟨rfl, rfl⟩
  go_wp2_with (at_builtin; go_loud (refine wpList_append_rd _ rfl (.tmp 18) (.tmp 22) 72 rfl (w.heap.size + 1) 9 i0 (.string ⟨#[]⟩) 1 16 Tryd.underlying72 hii hz0 hz1 hz2 rfl (by decide) _ (tw0 S m).length (tC (tw0 S m)) rfl (ow0.out.alloc _) _ 2 2 rfl (Nat.le_refl _) (by intro h; cases h) (tC [wLevel, numZ l]) rfl (Rd.twoS _ _ _ _) (tC_one _) (by unfold maxLen; omega) (by omega) (by simp; omega) ?_); intro v3 w3 hown3 hgrow3 hwhere3; (have tq3 := Lib.hid ((tq0.out.below (Below.alloc' (Below.refl _ _) _)).grown hgrow3 (fun e => by have := (hs0.out _ e.symm).1; omega))); (obtain ⟨ta, tb, tc, td, te⟩ := tq3.out))
  obtain ⟨hb3, -⟩ := append_below hB0 (fun k hk => by have := (hs0.out k hk).1; omega) hgrow3 hwhere3
  have hw3 : w.heap.size + 1 ≤ w3.heap.size := by have := hgrow3.size; simp at this; omega
  have ow3 := Lib.hid (own_eq (n' := (tw1 S l m).length) (ys := tC (tw1 S l m)) hown3 (by unfold tw1; simp) (by unfold tw1; rw [tC_app]))
  clear hown3 hgrow3 hwhere3 ow0 tq0 hs0 t0a t0b t0c t0d t0e
  have hnF := ptS_len (tbS_ok hth.out.s hth.out.r)
  have hnT := tbS_len S F
  have hip := Lib.hid (inP_of hth.out.s hth.out.r rfl)
  go_wp2_with fail
  refine (elemsV_any _ _ _ _ S F _ hip.out (hSh.out.rd.below hb3) (hFh.out.below hb3).2.2).mono ?_
  rintro e w4 ⟨rfl, hoE, hb4⟩
  have hB4 := Below.via' hb3 hb4
  have hw4 : w.heap.size + 1 ≤ w4.heap.size := Nat.le_trans hw3 hb4.size
  have hn := namesText_any (some ⟨w3.heap.size, 0, none⟩) F.length (tbS S F) w4 (by have := hF0.out; omega) (by omega) (fun p hp => by
    obtain ⟨k, hk, hk2⟩ := List.getElem_of_mem hp
    obtain ⟨i, hi, hSi⟩ := tbS_get hth.out.r (k := k) (p := p) (by rw [List.getElem?_eq_getElem hk, hk2])
    exact nm_size hth.out.s (List.mem_of_getElem? hSi)) (Rd.of_own hoE)
  rw [tbS_len] at hn
  have hnh := Lib.hid hn
  clear hoE hn
  go_wp2_with fail
  refine hnh.out.mono ?_
  rintro e w5 ⟨rfl, hb5⟩
  have hB5 := Below.via' hB4 hb5
  have hw5 : w.heap.size + 1 ≤ w5.heap.size := Nat.le_trans hw4 hb5.size
  have ow5 := Lib.hid (own_below (own_below ow3.out hb4) hb5)
  have tq5 := Lib.hid ((tq3.out.below hb4).below hb5)
  have hs5 := Lib.hid ow5.out.lt
  have hn2 := tw2_len (S := S) (l := l) (F := F) (m := m)
  clear ow3 tq3 ta tb tc td te hb4 hb5 hnh
  obtain ⟨t5a, t5b, t5c, t5d, t5e⟩ := tq5.out
  obtain ⟨vv, hvv⟩ : ∃ vv, vv = v3 := ⟨_, rfl⟩
  rw [← hvv] at ow5 hs5 ⊢
  clear hvv
  go_wp2_with (at_builtin; go_loud (refine wpList_append_rd _ rfl (.tmp 28) (.tmp 34) 72 rfl (w.heap.size + 1) 9 i0 (.string ⟨#[]⟩) 1 16 Tryd.underlying72 hii hz0 hz1 hz2 rfl (by decide) _ (tw1 S l m).length (tC (tw1 S l m)) rfl (ow5.out.alloc _) _ 2 2 rfl (Nat.le_refl _) (by intro h; cases h) (tC [wBy, jnS 44 (nsL S F)]) rfl (Rd.twoS _ _ _ _) (tC_one _) (by unfold maxLen; omega) (by omega) (by simp; omega) ?_); intro v6 w6 hown6 hgrow6 hwhere6; (have tq2 := Lib.hid ((tq5.out.below (Below.alloc' (Below.refl _ _) _)).grown hgrow6 (fun e => by have := (hs5.out _ e.symm).1; omega))); (obtain ⟨ta, tb, tc, td, te⟩ := tq2.out))
  obtain ⟨hB2, -⟩ := append_below hB5 (fun k hk => by have := (hs5.out k hk).1; omega) hgrow6 hwhere6
  have hw2 : w.heap.size + 1 ≤ w6.heap.size := by have := hgrow6.size; simp at this; omega
  have ow2 := Lib.hid (own_eq (n' := (tw2 S l F m).length) (ys := tC (tw2 S l F m)) hown6 (by rw [tw2_yes hF0.out]; simp) (by rw [tw2_yes hF0.out, tC_app]))
  obtain ⟨u2, hu2⟩ : ∃ u2, u2 = v6 := ⟨_, rfl⟩
  rw [← hu2] at ow2 ⊢
  clear hown6 hgrow6 hwhere6 ow5 tq5 hs5 hu2 t5a t5b t5c t5d t5e
  have hct : (0 : Int) < ((cwU S W S.length).length : Int) := by have := hc0.out; omega
  have hn2 := tw2_len (S := S) (l := l) (F := F) (m := m)
  go_wp2_with fail
  refine (condWords_any _ _ _ _ S W _ hth.out.s hth.out.w (hSh.out.below hB2) (hWh.out.below hB2)).mono ?_
  rintro e wj ⟨u7, rfl, ho7, hb7⟩
  have hBj := Below.via' hB2 hb7
  have hjw : w.heap.size + 1 ≤ wj.heap.size := Nat.le_trans hw2 hb7.size
  obtain ⟨x7, c7, rfl, hc7, hn7⟩ := (OwR.of ho7).form
  have hrj := Lib.hid (OwR.of ho7)
  have owk := Lib.hid (own_below ow2.out hb7)
  have hsk := Lib.hid owk.out.lt
  have hs2k := Lib.hid ow2.out.lt
  clear ho7 ow2 tq2 ta tb tc td te
  have hn3 := tw3_len (S := S) (l := l) (F := F) (W := W) (m := m)
  have hncw := cwU_len S W S.length
  have hjs : (jnS 32 (tw3 S l F W m ++ cwU S W S.length)).size ≤ 10000000 := hjz.out
  go_wp2_with (first | (at_builtin; go_loud (refine wpList_append_rd _ rfl (.tmp 43) (.tmp 44) 72 rfl (w.heap.size + 1) 9 i0 (.string ⟨#[]⟩) 1 16 Tryd.underlying72 hii hz0 hz1 hz2 rfl (by decide) _ (tw2 S l F m).length (tC (tw2 S l F m)) rfl (owk.out.alloc _) _ 1 1 rfl (Nat.le_refl _) (by intro h; cases h) (tC [wWhere]) rfl (Rd.oneS _ _ _) (tC_one _) (by unfold maxLen; omega) (by omega) (by simp; omega) ?_); intro v3 w3 hown3 hgrow3 hwhere3; (have hkw : w.heap.size + 1 ≤ w3.heap.size := by have := hgrow3.size; simp at this; omega); (have ow3 := Lib.hid (own_eq (n' := (tw3 S l F W m).length) (ys := tC (tw3 S l F W m)) hown3 (by rw [tw3_yes hc0.out]; simp) (by rw [tw3_yes hc0.out, tC_app]))); (have hrc := Lib.hid (((hrj.out.below (Below.alloc' (Below.refl _ _) _)).keep hgrow3 (fun k hk => by have := (hs2k.out k hk).2; exact Or.inl (by omega))).rd))) | (at_builtin; go_loud (refine wpList_append_rd _ rfl (.tmp 46) (.tmp 47) 72 rfl (w.heap.size + 1) 9 i0 (.string ⟨#[]⟩) 1 16 Tryd.underlying72 hii hz0 hz1 hz2 rfl (by decide) _ (tw3 S l F W m).length (tC (tw3 S l F W m)) rfl (ow3.out) _ (cwU S W S.length).length c7 rfl hc7 hn7 (tC (cwU S W S.length)) (by rw [tC_len, Nat.mul_one]) (hrc.out) (tC_one _) (by unfold maxLen; omega) (by omega) hkw ?_); intro v9 w9 hown9 hgrow9 hwhere9))
  obtain ⟨hBk, -⟩ := append_below hBj (fun k hk => by have := (hsk.out k hk).1; omega) hgrow3 hwhere3
  clear hown3 hgrow3 hwhere3 owk hsk hs2k hrj hb7
  have hsA := ow3.out.lt
  obtain ⟨hb9, -⟩ := append_below0 hBk (fun k hk => by have := (hsA k hk).1; omega) hgrow9 hwhere9
  have ow9 := own_eq (n' := (tw3 S l F W m ++ cwU S W S.length).length) (ys := tC (tw3 S l F W m ++ cwU S W S.length)) hown9 (by rw [List.length_append]) (tC_app _ _).symm
  obtain ⟨g9, c9, rfl⟩ := own_some2 ow9 (by rw [List.length_append]; omega)
  have hc9 : (tw3 S l F W m ++ cwU S W S.length).length ≤ c9 := by obtain ⟨a, b, e1, e2, -⟩ := (OwR.of ow9).form; injection e1 with _ _ e3; omega
  have hrd9 := Lib.hid (Rd.of_own ow9)
  have hln9 : (tw3 S l F W m ++ cwU S W S.length).length ≤ 1000 := by rw [List.length_append]; omega
  have hl19 : 1 ≤ (tw3 S l F W m ++ cwU S W S.length).length := by rw [List.length_append]; omega
  have hjn := join_S g9 c9 32 (tw3 S l F W m ++ cwU S W S.length) w9 hl19 hln9 hc9 hjs hrd9.out
  have hjnh := Lib.hid hjn
  clear hown9 hgrow9 hwhere9 ow9 hsA hjn
  go_wp2_with fail
  refine hjnh.out.mono ?_
  rintro e w10 ⟨rfl, hb10⟩
  go_wp2
  go_ret
  exact ⟨by first | rfl | (rw [← hmq.out]; rfl), Below.via' hb9 hb10⟩
set_option maxHeartbeats 8000000 in
theorem tt100 (y x z : Option Addr) (c1 c2 c3 : Nat) (P : List Int) (S : List (ByteArray × Int)) (l : Int) (F W : List Int) (m : Int) (w : World) (htg : TgP P S l F W m) (hS : SIn w y c1 S) (hT : TIn w x z F W) (hm : Hid (m ≠ -1)) (hF0 : Hid (F.length = 0)) (hc0 : Hid ((cwU S W S.length).length = 0)) :
    Calls Tryd.prog 25 #[.slice y S.length c1, .agg #[.int .i64 l, .slice x F.length c2, .slice z W.length c3, .int .i64 m]] w fun e w' => e = .returned (.string (ttT S l F W m)) ∧ Below w.heap.size w w' := by
  obtain ⟨i0, hii, hz0, hz1, hz2⟩ := info_parts Tryd.infoStr
  have hSh := Lib.hid hS
  have hFh := Lib.hid hT.1
  have hWh := Lib.hid hT.2
  have hth := Lib.hid htg
  have hlv := tg_lv htg
  have h6 := (schB_len htg.s).2
  have hm1 := htg.m1
  have hm0 := htg.m0
  have hjz := Lib.hid (tt_size (l := l) (F := F) (W := W) (m := m) htg)
  clear hS hT htg
  have q0 := Lib.hid (TQ.new w l x F.length c2 z W.length c3 m 37)
  obtain ⟨q, rfl⟩ := Int.eq_ofNat_of_zero_le (show 0 ≤ m by have := hm.out; omega)
  obtain ⟨bl, off, nm, lv, rfl, hbl, hSq, hk0, hk1⟩ := hSh.out.rd.var (i := q) (by omega)
  have hnq := naA_at hSq
  have hqt : ((q : Nat) : Int).toNat = q := Int.toNat_natCast q
  have e1 : ((q : Int) != -1) = true := by rw [bne_iff_ne]; exact hm.out
  have hq0 : (0 : Int) ≤ (q : Int) := by omega
  have hq1 : (q : Int) < (S.length : Int) := by omega
  obtain ⟨wa, hwa⟩ : ∃ wa, wa = ((w.alloc (.cells #[.int .i64 l, .slice x F.length c2, .slice z W.length c3, .int .i64 (q : Int)] 37)).alloc (.cells #[.string ⟨#[99, 111, 117, 110, 116]⟩] 9)).alloc (.cells #[.string ⟨#[115, 117, 109]⟩, .string nm] 9) := ⟨_, rfl⟩
  have ow0 : wa.ownsRow (w.heap.size + 1) 9 1 (.slice (some ⟨w.heap.size + 1 + 1, 0, none⟩) 2 2) (tw0 S (q : Int)).length (tC (tw0 S (q : Int))) := by
    rw [tw0_yes hm.out, hqt, hnq, hwa]
    have h0 := World.ownsRow_lit (base := w.heap.size + 1) (e := 9) (size := 1) ((w.alloc (.cells #[.int .i64 l, .slice x F.length c2, .slice z W.length c3, .int .i64 (q : Int)] 37)).alloc (.cells #[.string ⟨#[99, 111, 117, 110, 116]⟩] 9)) #[.string ⟨#[115, 117, 109]⟩, .string nm] 2 (by simp) (by unfold maxLen; omega) rfl
    rw [World.size_alloc, World.size_alloc] at h0
    exact h0
  have tq0 : TQ wa w.heap.size l x F.length c2 z W.length c3 (q : Int) := by rw [hwa]; exact q0.out.below (by repeat (first | exact Below.refl _ _ | assumption | refine Below.drew ?_ | refine below_drewN ?_ _ | refine Below.alloc' ?_ _ | (refine Below.setCell ?_ (by first | omega | (simp; done) | (simp; omega) | exact Below.size (by assumption) | exact Nat.le_trans (Below.size (by assumption)) (by simp)) _) | (refine Below.via' ?_ (by assumption)) | (refine Below.alloc ?_ (by first | omega | (simp; done) | (simp; omega) | exact Below.size (by assumption) | exact Nat.le_trans (Below.size (by assumption)) (by simp)) _) | (refine Below.via ?_ (by assumption) (by first | omega | (simp; done) | (simp; omega) | exact Below.size (by assumption) | exact Nat.le_trans (Below.size (by assumption)) (by simp)))))
  have hB0 : Below w.heap.size w wa := by rw [hwa]; exact (by repeat (first | exact Below.refl _ _ | assumption | refine Below.drew ?_ | refine below_drewN ?_ _ | refine Below.alloc' ?_ _ | (refine Below.setCell ?_ (by first | omega | (simp; done) | (simp; omega) | exact Below.size (by assumption) | exact Nat.le_trans (Below.size (by assumption)) (by simp)) _) | (refine Below.via' ?_ (by assumption)) | (refine Below.alloc ?_ (by first | omega | (simp; done) | (simp; omega) | exact Below.size (by assumption) | exact Nat.le_trans (Below.size (by assumption)) (by simp)) _) | (refine Below.via ?_ (by assumption) (by first | omega | (simp; done) | (simp; omega) | exact Below.size (by assumption) | exact Nat.le_trans (Below.size (by assumption)) (by simp)))))
  replace ow0 := Lib.hid ow0
  replace tq0 := Lib.hid tq0
  replace hwa := Lib.hid hwa
  have hza : w.heap.size + 1 < wa.heap.size := by rw [hwa.out]; simp <;> omega
  clear q0
  replace hSq := Lib.hid hSq
  replace hnq := Lib.hid hnq
  replace hqt := Lib.hid hqt
  go_enter Tryd.func25, Tryd.ntmps25
  go_upto_region 4 with fail
  rw [← hwa.out]
  obtain ⟨m, hmq⟩ : ∃ m : Int, m = (q : Int) := ⟨_, rfl⟩
  rw [← hmq] at ow0 tq0 hth hjz ⊢
  replace hmq := Lib.hid hmq
  have hft : ¬ (0 : Int) < (F.length : Int) := by have := hF0.out; omega
  have hn0 := tw0_len (S := S) (m := m)
  have hn1 := tw1_len (S := S) (l := l) (m := m)
  have hs0 := Lib.hid ow0.out.lt
  obtain ⟨t0a, t0b, t0c, t0d, t0e⟩ := tq0.out
  go_wp2_with fail
  refine (itoa_E l _ hlv.1 (by omega)).mono ?_
  rintro e w1 ⟨rfl, rfl⟩
  go_wp2_with (at_builtin; go_loud (refine wpList_append_rd _ rfl (.tmp 18) (.tmp 22) 72 rfl (w.heap.size + 1) 9 i0 (.string ⟨#[]⟩) 1 16 Tryd.underlying72 hii hz0 hz1 hz2 rfl (by decide) _ (tw0 S m).length (tC (tw0 S m)) rfl (ow0.out.alloc _) _ 2 2 rfl (Nat.le_refl _) (by intro h; cases h) (tC [wLevel, numZ l]) rfl (Rd.twoS _ _ _ _) (tC_one _) (by unfold maxLen; omega) (by omega) (by simp; omega) ?_); intro v3 w3 hown3 hgrow3 hwhere3; (have tq3 := Lib.hid ((tq0.out.below (Below.alloc' (Below.refl _ _) _)).grown hgrow3 (fun e => by have := (hs0.out _ e.symm).1; omega))); (obtain ⟨ta, tb, tc, td, te⟩ := tq3.out))
  obtain ⟨hb3, -⟩ := append_below hB0 (fun k hk => by have := (hs0.out k hk).1; omega) hgrow3 hwhere3
  have hw3 : w.heap.size + 1 ≤ w3.heap.size := by have := hgrow3.size; simp at this; omega
  have ow3 := Lib.hid (own_eq (n' := (tw1 S l m).length) (ys := tC (tw1 S l m)) hown3 (by unfold tw1; simp) (by unfold tw1; rw [tC_app]))
  clear hown3 hgrow3 hwhere3 ow0 tq0 hs0 t0a t0b t0c t0d t0e
  have ow2 : Hid (w3.ownsRow (w.heap.size + 1) 9 1 v3 (tw2 S l F m).length (tC (tw2 S l F m))) := Lib.hid (by rw [tw2_no hF0.out]; exact ow3.out)
  have tq2 := tq3
  have hB2 := hb3
  have hw2 := hw3
  obtain ⟨u2, hu2⟩ : ∃ u2, u2 = v3 := ⟨_, rfl⟩
  rw [← hu2] at ow2 ⊢
  clear ow3 tq3 hu2
  have hct : ¬ (0 : Int) < ((cwU S W S.length).length : Int) := by have := hc0.out; omega
  go_wp2_with fail
  refine (condWords_any _ _ _ _ S W _ hth.out.s hth.out.w (hSh.out.below hB2) (hWh.out.below hB2)).mono ?_
  rintro e wk ⟨u7, rfl, ho7, hb7⟩
  have hBk := Below.via' hB2 hb7
  have hkw : w.heap.size + 1 ≤ wk.heap.size := Nat.le_trans hw2 hb7.size
  obtain ⟨x7, c7, rfl, hc7, hn7⟩ := (OwR.of ho7).form
  have hrc := Lib.hid (Rd.of_own ho7)
  have ow3 : Hid (wk.ownsRow (w.heap.size + 1) 9 1 u2 (tw3 S l F W m).length (tC (tw3 S l F W m))) := Lib.hid (by rw [tw3_no hc0.out]; exact own_below ow2.out hb7)
  clear ho7 hb7 ow2 tq2 ta tb tc td te
  have hn3 := tw3_len (S := S) (l := l) (F := F) (W := W) (m := m)
  have hncw := cwU_len S W S.length
  have hjs : (jnS 32 (tw3 S l F W m ++ cwU S W S.length)).size ≤ 10000000 := hjz.out
  go_wp2_with (at_builtin; go_loud (refine wpList_append_rd _ rfl (.tmp 46) (.tmp 47) 72 rfl (w.heap.size + 1) 9 i0 (.string ⟨#[]⟩) 1 16 Tryd.underlying72 hii hz0 hz1 hz2 rfl (by decide) _ (tw3 S l F W m).length (tC (tw3 S l F W m)) rfl (ow3.out) _ (cwU S W S.length).length c7 rfl hc7 hn7 (tC (cwU S W S.length)) (by rw [tC_len, Nat.mul_one]) (hrc.out) (tC_one _) (by unfold maxLen; omega) (by omega) hkw ?_); intro v9 w9 hown9 hgrow9 hwhere9)
  have hsA := ow3.out.lt
  obtain ⟨hb9, -⟩ := append_below0 hBk (fun k hk => by have := (hsA k hk).1; omega) hgrow9 hwhere9
  have ow9 := own_eq (n' := (tw3 S l F W m ++ cwU S W S.length).length) (ys := tC (tw3 S l F W m ++ cwU S W S.length)) hown9 (by rw [List.length_append]) (tC_app _ _).symm
  obtain ⟨g9, c9, rfl⟩ := own_some2 ow9 (by rw [List.length_append]; omega)
  have hc9 : (tw3 S l F W m ++ cwU S W S.length).length ≤ c9 := by obtain ⟨a, b, e1, e2, -⟩ := (OwR.of ow9).form; injection e1 with _ _ e3; omega
  have hrd9 := Lib.hid (Rd.of_own ow9)
  have hln9 : (tw3 S l F W m ++ cwU S W S.length).length ≤ 1000 := by rw [List.length_append]; omega
  have hl19 : 1 ≤ (tw3 S l F W m ++ cwU S W S.length).length := by rw [List.length_append]; omega
  have hjn := join_S g9 c9 32 (tw3 S l F W m ++ cwU S W S.length) w9 hl19 hln9 hc9 hjs hrd9.out
  have hjnh := Lib.hid hjn
  clear hown9 hgrow9 hwhere9 ow9 hsA hjn
  go_wp2_with fail
  refine hjnh.out.mono ?_
  rintro e w10 ⟨rfl, hb10⟩
  go_wp2
  go_ret
  exact ⟨by first | rfl | (rw [← hmq.out]; rfl), Below.via' hb9 hb10⟩
set_option maxHeartbeats 8000000 in
theorem tt101 (y x z : Option Addr) (c1 c2 c3 : Nat) (P : List Int) (S : List (ByteArray × Int)) (l : Int) (F W : List Int) (m : Int) (w : World) (htg : TgP P S l F W m) (hS : SIn w y c1 S) (hT : TIn w x z F W) (hm : Hid (m ≠ -1)) (hF0 : Hid (F.length = 0)) (hc0 : Hid ((cwU S W S.length).length ≠ 0)) :
    Calls Tryd.prog 25 #[.slice y S.length c1, .agg #[.int .i64 l, .slice x F.length c2, .slice z W.length c3, .int .i64 m]] w fun e w' => e = .returned (.string (ttT S l F W m)) ∧ Below w.heap.size w w' := by
  obtain ⟨i0, hii, hz0, hz1, hz2⟩ := info_parts Tryd.infoStr
  have hSh := Lib.hid hS
  have hFh := Lib.hid hT.1
  have hWh := Lib.hid hT.2
  have hth := Lib.hid htg
  have hlv := tg_lv htg
  have h6 := (schB_len htg.s).2
  have hm1 := htg.m1
  have hm0 := htg.m0
  have hjz := Lib.hid (tt_size (l := l) (F := F) (W := W) (m := m) htg)
  clear hS hT htg
  have q0 := Lib.hid (TQ.new w l x F.length c2 z W.length c3 m 37)
  obtain ⟨q, rfl⟩ := Int.eq_ofNat_of_zero_le (show 0 ≤ m by have := hm.out; omega)
  obtain ⟨bl, off, nm, lv, rfl, hbl, hSq, hk0, hk1⟩ := hSh.out.rd.var (i := q) (by omega)
  have hnq := naA_at hSq
  have hqt : ((q : Nat) : Int).toNat = q := Int.toNat_natCast q
  have e1 : ((q : Int) != -1) = true := by rw [bne_iff_ne]; exact hm.out
  have hq0 : (0 : Int) ≤ (q : Int) := by omega
  have hq1 : (q : Int) < (S.length : Int) := by omega
  obtain ⟨wa, hwa⟩ : ∃ wa, wa = ((w.alloc (.cells #[.int .i64 l, .slice x F.length c2, .slice z W.length c3, .int .i64 (q : Int)] 37)).alloc (.cells #[.string ⟨#[99, 111, 117, 110, 116]⟩] 9)).alloc (.cells #[.string ⟨#[115, 117, 109]⟩, .string nm] 9) := ⟨_, rfl⟩
  have ow0 : wa.ownsRow (w.heap.size + 1) 9 1 (.slice (some ⟨w.heap.size + 1 + 1, 0, none⟩) 2 2) (tw0 S (q : Int)).length (tC (tw0 S (q : Int))) := by
    rw [tw0_yes hm.out, hqt, hnq, hwa]
    have h0 := World.ownsRow_lit (base := w.heap.size + 1) (e := 9) (size := 1) ((w.alloc (.cells #[.int .i64 l, .slice x F.length c2, .slice z W.length c3, .int .i64 (q : Int)] 37)).alloc (.cells #[.string ⟨#[99, 111, 117, 110, 116]⟩] 9)) #[.string ⟨#[115, 117, 109]⟩, .string nm] 2 (by simp) (by unfold maxLen; omega) rfl
    rw [World.size_alloc, World.size_alloc] at h0
    exact h0
  have tq0 : TQ wa w.heap.size l x F.length c2 z W.length c3 (q : Int) := by rw [hwa]; exact q0.out.below (by repeat (first | exact Below.refl _ _ | assumption | refine Below.drew ?_ | refine below_drewN ?_ _ | refine Below.alloc' ?_ _ | (refine Below.setCell ?_ (by first | omega | (simp; done) | (simp; omega) | exact Below.size (by assumption) | exact Nat.le_trans (Below.size (by assumption)) (by simp)) _) | (refine Below.via' ?_ (by assumption)) | (refine Below.alloc ?_ (by first | omega | (simp; done) | (simp; omega) | exact Below.size (by assumption) | exact Nat.le_trans (Below.size (by assumption)) (by simp)) _) | (refine Below.via ?_ (by assumption) (by first | omega | (simp; done) | (simp; omega) | exact Below.size (by assumption) | exact Nat.le_trans (Below.size (by assumption)) (by simp)))))
  have hB0 : Below w.heap.size w wa := by rw [hwa]; exact (by repeat (first | exact Below.refl _ _ | assumption | refine Below.drew ?_ | refine below_drewN ?_ _ | refine Below.alloc' ?_ _ | (refine Below.setCell ?_ (by first | omega | (simp; done) | (simp; omega) | exact Below.size (by assumption) | exact Nat.le_trans (Below.size (by assumption)) (by simp)) _) | (refine Below.via' ?_ (by assumption)) | (refine Below.alloc ?_ (by first | omega | (simp; done) | (simp; omega) | exact Below.size (by assumption) | exact Nat.le_trans (Below.size (by assumption)) (by simp)) _) | (refine Below.via ?_ (by assumption) (by first | omega | (simp; done) | (simp; omega) | exact Below.size (by assumption) | exact Nat.le_trans (Below.size (by assumption)) (by simp)))))
  replace ow0 := Lib.hid ow0
  replace tq0 := Lib.hid tq0
  replace hwa := Lib.hid hwa
  have hza : w.heap.size + 1 < wa.heap.size := by rw [hwa.out]; simp <;> omega
  clear q0
  replace hSq := Lib.hid hSq
  replace hnq := Lib.hid hnq
  replace hqt := Lib.hid hqt
  go_enter Tryd.func25, Tryd.ntmps25
  go_upto_region 4 with fail
  rw [← hwa.out]
  obtain ⟨m, hmq⟩ : ∃ m : Int, m = (q : Int) := ⟨_, rfl⟩
  rw [← hmq] at ow0 tq0 hth hjz ⊢
  replace hmq := Lib.hid hmq
  have hft : ¬ (0 : Int) < (F.length : Int) := by have := hF0.out; omega
  have hn0 := tw0_len (S := S) (m := m)
  have hn1 := tw1_len (S := S) (l := l) (m := m)
  have hs0 := Lib.hid ow0.out.lt
  obtain ⟨t0a, t0b, t0c, t0d, t0e⟩ := tq0.out
  go_wp2_with fail
  refine (itoa_E l _ hlv.1 (by omega)).mono ?_
  rintro e w1 ⟨rfl, rfl⟩
  go_wp2_with (at_builtin; go_loud (refine wpList_append_rd _ rfl (.tmp 18) (.tmp 22) 72 rfl (w.heap.size + 1) 9 i0 (.string ⟨#[]⟩) 1 16 Tryd.underlying72 hii hz0 hz1 hz2 rfl (by decide) _ (tw0 S m).length (tC (tw0 S m)) rfl (ow0.out.alloc _) _ 2 2 rfl (Nat.le_refl _) (by intro h; cases h) (tC [wLevel, numZ l]) rfl (Rd.twoS _ _ _ _) (tC_one _) (by unfold maxLen; omega) (by omega) (by simp; omega) ?_); intro v3 w3 hown3 hgrow3 hwhere3; (have tq3 := Lib.hid ((tq0.out.below (Below.alloc' (Below.refl _ _) _)).grown hgrow3 (fun e => by have := (hs0.out _ e.symm).1; omega))); (obtain ⟨ta, tb, tc, td, te⟩ := tq3.out))
  obtain ⟨hb3, -⟩ := append_below hB0 (fun k hk => by have := (hs0.out k hk).1; omega) hgrow3 hwhere3
  have hw3 : w.heap.size + 1 ≤ w3.heap.size := by have := hgrow3.size; simp at this; omega
  have ow3 := Lib.hid (own_eq (n' := (tw1 S l m).length) (ys := tC (tw1 S l m)) hown3 (by unfold tw1; simp) (by unfold tw1; rw [tC_app]))
  clear hown3 hgrow3 hwhere3 ow0 tq0 hs0 t0a t0b t0c t0d t0e
  have ow2 : Hid (w3.ownsRow (w.heap.size + 1) 9 1 v3 (tw2 S l F m).length (tC (tw2 S l F m))) := Lib.hid (by rw [tw2_no hF0.out]; exact ow3.out)
  have tq2 := tq3
  have hB2 := hb3
  have hw2 := hw3
  obtain ⟨u2, hu2⟩ : ∃ u2, u2 = v3 := ⟨_, rfl⟩
  rw [← hu2] at ow2 ⊢
  clear ow3 tq3 hu2
  have hct : (0 : Int) < ((cwU S W S.length).length : Int) := by have := hc0.out; omega
  have hn2 := tw2_len (S := S) (l := l) (F := F) (m := m)
  go_wp2_with fail
  refine (condWords_any _ _ _ _ S W _ hth.out.s hth.out.w (hSh.out.below hB2) (hWh.out.below hB2)).mono ?_
  rintro e wj ⟨u7, rfl, ho7, hb7⟩
  have hBj := Below.via' hB2 hb7
  have hjw : w.heap.size + 1 ≤ wj.heap.size := Nat.le_trans hw2 hb7.size
  obtain ⟨x7, c7, rfl, hc7, hn7⟩ := (OwR.of ho7).form
  have hrj := Lib.hid (OwR.of ho7)
  have owk := Lib.hid (own_below ow2.out hb7)
  have hsk := Lib.hid owk.out.lt
  have hs2k := Lib.hid ow2.out.lt
  clear ho7 ow2 tq2 ta tb tc td te
  have hn3 := tw3_len (S := S) (l := l) (F := F) (W := W) (m := m)
  have hncw := cwU_len S W S.length
  have hjs : (jnS 32 (tw3 S l F W m ++ cwU S W S.length)).size ≤ 10000000 := hjz.out
  go_wp2_with (first | (at_builtin; go_loud (refine wpList_append_rd _ rfl (.tmp 43) (.tmp 44) 72 rfl (w.heap.size + 1) 9 i0 (.string ⟨#[]⟩) 1 16 Tryd.underlying72 hii hz0 hz1 hz2 rfl (by decide) _ (tw2 S l F m).length (tC (tw2 S l F m)) rfl (owk.out.alloc _) _ 1 1 rfl (Nat.le_refl _) (by intro h; cases h) (tC [wWhere]) rfl (Rd.oneS _ _ _) (tC_one _) (by unfold maxLen; omega) (by omega) (by simp; omega) ?_); intro v3 w3 hown3 hgrow3 hwhere3; (have hkw : w.heap.size + 1 ≤ w3.heap.size := by have := hgrow3.size; simp at this; omega); (have ow3 := Lib.hid (own_eq (n' := (tw3 S l F W m).length) (ys := tC (tw3 S l F W m)) hown3 (by rw [tw3_yes hc0.out]; simp) (by rw [tw3_yes hc0.out, tC_app]))); (have hrc := Lib.hid (((hrj.out.below (Below.alloc' (Below.refl _ _) _)).keep hgrow3 (fun k hk => by have := (hs2k.out k hk).2; exact Or.inl (by omega))).rd))) | (at_builtin; go_loud (refine wpList_append_rd _ rfl (.tmp 46) (.tmp 47) 72 rfl (w.heap.size + 1) 9 i0 (.string ⟨#[]⟩) 1 16 Tryd.underlying72 hii hz0 hz1 hz2 rfl (by decide) _ (tw3 S l F W m).length (tC (tw3 S l F W m)) rfl (ow3.out) _ (cwU S W S.length).length c7 rfl hc7 hn7 (tC (cwU S W S.length)) (by rw [tC_len, Nat.mul_one]) (hrc.out) (tC_one _) (by unfold maxLen; omega) (by omega) hkw ?_); intro v9 w9 hown9 hgrow9 hwhere9))
  obtain ⟨hBk, -⟩ := append_below hBj (fun k hk => by have := (hsk.out k hk).1; omega) hgrow3 hwhere3
  clear hown3 hgrow3 hwhere3 owk hsk hs2k hrj hb7
  have hsA := ow3.out.lt
  obtain ⟨hb9, -⟩ := append_below0 hBk (fun k hk => by have := (hsA k hk).1; omega) hgrow9 hwhere9
  have ow9 := own_eq (n' := (tw3 S l F W m ++ cwU S W S.length).length) (ys := tC (tw3 S l F W m ++ cwU S W S.length)) hown9 (by rw [List.length_append]) (tC_app _ _).symm
  obtain ⟨g9, c9, rfl⟩ := own_some2 ow9 (by rw [List.length_append]; omega)
  have hc9 : (tw3 S l F W m ++ cwU S W S.length).length ≤ c9 := by obtain ⟨a, b, e1, e2, -⟩ := (OwR.of ow9).form; injection e1 with _ _ e3; omega
  have hrd9 := Lib.hid (Rd.of_own ow9)
  have hln9 : (tw3 S l F W m ++ cwU S W S.length).length ≤ 1000 := by rw [List.length_append]; omega
  have hl19 : 1 ≤ (tw3 S l F W m ++ cwU S W S.length).length := by rw [List.length_append]; omega
  have hjn := join_S g9 c9 32 (tw3 S l F W m ++ cwU S W S.length) w9 hl19 hln9 hc9 hjs hrd9.out
  have hjnh := Lib.hid hjn
  clear hown9 hgrow9 hwhere9 ow9 hsA hjn
  go_wp2_with fail
  refine hjnh.out.mono ?_
  rintro e w10 ⟨rfl, hb10⟩
  go_wp2
  go_ret
  exact ⟨by first | rfl | (rw [← hmq.out]; rfl), Below.via' hb9 hb10⟩
set_option maxHeartbeats 8000000 in
theorem tt110 (y x z : Option Addr) (c1 c2 c3 : Nat) (P : List Int) (S : List (ByteArray × Int)) (l : Int) (F W : List Int) (m : Int) (w : World) (htg : TgP P S l F W m) (hS : SIn w y c1 S) (hT : TIn w x z F W) (hm : Hid (m ≠ -1)) (hF0 : Hid (F.length ≠ 0)) (hc0 : Hid ((cwU S W S.length).length = 0)) :
    Calls Tryd.prog 25 #[.slice y S.length c1, .agg #[.int .i64 l, .slice x F.length c2, .slice z W.length c3, .int .i64 m]] w fun e w' => e = .returned (.string (ttT S l F W m)) ∧ Below w.heap.size w w' := by
  obtain ⟨i0, hii, hz0, hz1, hz2⟩ := info_parts Tryd.infoStr
  have hSh := Lib.hid hS
  have hFh := Lib.hid hT.1
  have hWh := Lib.hid hT.2
  have hth := Lib.hid htg
  have hlv := tg_lv htg
  have h6 := (schB_len htg.s).2
  have hm1 := htg.m1
  have hm0 := htg.m0
  have hjz := Lib.hid (tt_size (l := l) (F := F) (W := W) (m := m) htg)
  clear hS hT htg
  have q0 := Lib.hid (TQ.new w l x F.length c2 z W.length c3 m 37)
  obtain ⟨q, rfl⟩ := Int.eq_ofNat_of_zero_le (show 0 ≤ m by have := hm.out; omega)
  obtain ⟨bl, off, nm, lv, rfl, hbl, hSq, hk0, hk1⟩ := hSh.out.rd.var (i := q) (by omega)
  have hnq := naA_at hSq
  have hqt : ((q : Nat) : Int).toNat = q := Int.toNat_natCast q
  have e1 : ((q : Int) != -1) = true := by rw [bne_iff_ne]; exact hm.out
  have hq0 : (0 : Int) ≤ (q : Int) := by omega
  have hq1 : (q : Int) < (S.length : Int) := by omega
  obtain ⟨wa, hwa⟩ : ∃ wa, wa = ((w.alloc (.cells #[.int .i64 l, .slice x F.length c2, .slice z W.length c3, .int .i64 (q : Int)] 37)).alloc (.cells #[.string ⟨#[99, 111, 117, 110, 116]⟩] 9)).alloc (.cells #[.string ⟨#[115, 117, 109]⟩, .string nm] 9) := ⟨_, rfl⟩
  have ow0 : wa.ownsRow (w.heap.size + 1) 9 1 (.slice (some ⟨w.heap.size + 1 + 1, 0, none⟩) 2 2) (tw0 S (q : Int)).length (tC (tw0 S (q : Int))) := by
    rw [tw0_yes hm.out, hqt, hnq, hwa]
    have h0 := World.ownsRow_lit (base := w.heap.size + 1) (e := 9) (size := 1) ((w.alloc (.cells #[.int .i64 l, .slice x F.length c2, .slice z W.length c3, .int .i64 (q : Int)] 37)).alloc (.cells #[.string ⟨#[99, 111, 117, 110, 116]⟩] 9)) #[.string ⟨#[115, 117, 109]⟩, .string nm] 2 (by simp) (by unfold maxLen; omega) rfl
    rw [World.size_alloc, World.size_alloc] at h0
    exact h0
  have tq0 : TQ wa w.heap.size l x F.length c2 z W.length c3 (q : Int) := by rw [hwa]; exact q0.out.below (by repeat (first | exact Below.refl _ _ | assumption | refine Below.drew ?_ | refine below_drewN ?_ _ | refine Below.alloc' ?_ _ | (refine Below.setCell ?_ (by first | omega | (simp; done) | (simp; omega) | exact Below.size (by assumption) | exact Nat.le_trans (Below.size (by assumption)) (by simp)) _) | (refine Below.via' ?_ (by assumption)) | (refine Below.alloc ?_ (by first | omega | (simp; done) | (simp; omega) | exact Below.size (by assumption) | exact Nat.le_trans (Below.size (by assumption)) (by simp)) _) | (refine Below.via ?_ (by assumption) (by first | omega | (simp; done) | (simp; omega) | exact Below.size (by assumption) | exact Nat.le_trans (Below.size (by assumption)) (by simp)))))
  have hB0 : Below w.heap.size w wa := by rw [hwa]; exact (by repeat (first | exact Below.refl _ _ | assumption | refine Below.drew ?_ | refine below_drewN ?_ _ | refine Below.alloc' ?_ _ | (refine Below.setCell ?_ (by first | omega | (simp; done) | (simp; omega) | exact Below.size (by assumption) | exact Nat.le_trans (Below.size (by assumption)) (by simp)) _) | (refine Below.via' ?_ (by assumption)) | (refine Below.alloc ?_ (by first | omega | (simp; done) | (simp; omega) | exact Below.size (by assumption) | exact Nat.le_trans (Below.size (by assumption)) (by simp)) _) | (refine Below.via ?_ (by assumption) (by first | omega | (simp; done) | (simp; omega) | exact Below.size (by assumption) | exact Nat.le_trans (Below.size (by assumption)) (by simp)))))
  replace ow0 := Lib.hid ow0
  replace tq0 := Lib.hid tq0
  replace hwa := Lib.hid hwa
  have hza : w.heap.size + 1 < wa.heap.size := by rw [hwa.out]; simp <;> omega
  clear q0
  replace hSq := Lib.hid hSq
  replace hnq := Lib.hid hnq
  replace hqt := Lib.hid hqt
  go_enter Tryd.func25, Tryd.ntmps25
  go_upto_region 4 with fail
  rw [← hwa.out]
  obtain ⟨m, hmq⟩ : ∃ m : Int, m = (q : Int) := ⟨_, rfl⟩
  rw [← hmq] at ow0 tq0 hth hjz ⊢
  replace hmq := Lib.hid hmq
  have hft : (0 : Int) < (F.length : Int) := by have := hF0.out; omega
  have hn0 := tw0_len (S := S) (m := m)
  have hn1 := tw1_len (S := S) (l := l) (m := m)
  have hs0 := Lib.hid ow0.out.lt
  obtain ⟨t0a, t0b, t0c, t0d, t0e⟩ := tq0.out
  go_wp2_with fail
  refine (itoa_E l _ hlv.1 (by omega)).mono ?_
  rintro e w1 ⟨rfl, rfl⟩
  go_wp2_with (at_builtin; go_loud (refine wpList_append_rd _ rfl (.tmp 18) (.tmp 22) 72 rfl (w.heap.size + 1) 9 i0 (.string ⟨#[]⟩) 1 16 Tryd.underlying72 hii hz0 hz1 hz2 rfl (by decide) _ (tw0 S m).length (tC (tw0 S m)) rfl (ow0.out.alloc _) _ 2 2 rfl (Nat.le_refl _) (by intro h; cases h) (tC [wLevel, numZ l]) rfl (Rd.twoS _ _ _ _) (tC_one _) (by unfold maxLen; omega) (by omega) (by simp; omega) ?_); intro v3 w3 hown3 hgrow3 hwhere3; (have tq3 := Lib.hid ((tq0.out.below (Below.alloc' (Below.refl _ _) _)).grown hgrow3 (fun e => by have := (hs0.out _ e.symm).1; omega))); (obtain ⟨ta, tb, tc, td, te⟩ := tq3.out))
  obtain ⟨hb3, -⟩ := append_below hB0 (fun k hk => by have := (hs0.out k hk).1; omega) hgrow3 hwhere3
  have hw3 : w.heap.size + 1 ≤ w3.heap.size := by have := hgrow3.size; simp at this; omega
  have ow3 := Lib.hid (own_eq (n' := (tw1 S l m).length) (ys := tC (tw1 S l m)) hown3 (by unfold tw1; simp) (by unfold tw1; rw [tC_app]))
  clear hown3 hgrow3 hwhere3 ow0 tq0 hs0 t0a t0b t0c t0d t0e
  have hnF := ptS_len (tbS_ok hth.out.s hth.out.r)
  have hnT := tbS_len S F
  have hip := Lib.hid (inP_of hth.out.s hth.out.r rfl)
  go_wp2_with fail
  refine (elemsV_any _ _ _ _ S F _ hip.out (hSh.out.rd.below hb3) (hFh.out.below hb3).2.2).mono ?_
  rintro e w4 ⟨rfl, hoE, hb4⟩
  have hB4 := Below.via' hb3 hb4
  have hw4 : w.heap.size + 1 ≤ w4.heap.size := Nat.le_trans hw3 hb4.size
  have hn := namesText_any (some ⟨w3.heap.size, 0, none⟩) F.length (tbS S F) w4 (by have := hF0.out; omega) (by omega) (fun p hp => by
    obtain ⟨k, hk, hk2⟩ := List.getElem_of_mem hp
    obtain ⟨i, hi, hSi⟩ := tbS_get hth.out.r (k := k) (p := p) (by rw [List.getElem?_eq_getElem hk, hk2])
    exact nm_size hth.out.s (List.mem_of_getElem? hSi)) (Rd.of_own hoE)
  rw [tbS_len] at hn
  have hnh := Lib.hid hn
  clear hoE hn
  go_wp2_with fail
  refine hnh.out.mono ?_
  rintro e w5 ⟨rfl, hb5⟩
  have hB5 := Below.via' hB4 hb5
  have hw5 : w.heap.size + 1 ≤ w5.heap.size := Nat.le_trans hw4 hb5.size
  have ow5 := Lib.hid (own_below (own_below ow3.out hb4) hb5)
  have tq5 := Lib.hid ((tq3.out.below hb4).below hb5)
  have hs5 := Lib.hid ow5.out.lt
  have hn2 := tw2_len (S := S) (l := l) (F := F) (m := m)
  clear ow3 tq3 ta tb tc td te hb4 hb5 hnh
  obtain ⟨t5a, t5b, t5c, t5d, t5e⟩ := tq5.out
  obtain ⟨vv, hvv⟩ : ∃ vv, vv = v3 := ⟨_, rfl⟩
  rw [← hvv] at ow5 hs5 ⊢
  clear hvv
  go_wp2_with (at_builtin; go_loud (refine wpList_append_rd _ rfl (.tmp 28) (.tmp 34) 72 rfl (w.heap.size + 1) 9 i0 (.string ⟨#[]⟩) 1 16 Tryd.underlying72 hii hz0 hz1 hz2 rfl (by decide) _ (tw1 S l m).length (tC (tw1 S l m)) rfl (ow5.out.alloc _) _ 2 2 rfl (Nat.le_refl _) (by intro h; cases h) (tC [wBy, jnS 44 (nsL S F)]) rfl (Rd.twoS _ _ _ _) (tC_one _) (by unfold maxLen; omega) (by omega) (by simp; omega) ?_); intro v6 w6 hown6 hgrow6 hwhere6; (have tq2 := Lib.hid ((tq5.out.below (Below.alloc' (Below.refl _ _) _)).grown hgrow6 (fun e => by have := (hs5.out _ e.symm).1; omega))); (obtain ⟨ta, tb, tc, td, te⟩ := tq2.out))
  obtain ⟨hB2, -⟩ := append_below hB5 (fun k hk => by have := (hs5.out k hk).1; omega) hgrow6 hwhere6
  have hw2 : w.heap.size + 1 ≤ w6.heap.size := by have := hgrow6.size; simp at this; omega
  have ow2 := Lib.hid (own_eq (n' := (tw2 S l F m).length) (ys := tC (tw2 S l F m)) hown6 (by rw [tw2_yes hF0.out]; simp) (by rw [tw2_yes hF0.out, tC_app]))
  obtain ⟨u2, hu2⟩ : ∃ u2, u2 = v6 := ⟨_, rfl⟩
  rw [← hu2] at ow2 ⊢
  clear hown6 hgrow6 hwhere6 ow5 tq5 hs5 hu2 t5a t5b t5c t5d t5e
  have hct : ¬ (0 : Int) < ((cwU S W S.length).length : Int) := by have := hc0.out; omega
  go_wp2_with fail
  refine (condWords_any _ _ _ _ S W _ hth.out.s hth.out.w (hSh.out.below hB2) (hWh.out.below hB2)).mono ?_
  rintro e wk ⟨u7, rfl, ho7, hb7⟩
  have hBk := Below.via' hB2 hb7
  have hkw : w.heap.size + 1 ≤ wk.heap.size := Nat.le_trans hw2 hb7.size
  obtain ⟨x7, c7, rfl, hc7, hn7⟩ := (OwR.of ho7).form
  have hrc := Lib.hid (Rd.of_own ho7)
  have ow3 : Hid (wk.ownsRow (w.heap.size + 1) 9 1 u2 (tw3 S l F W m).length (tC (tw3 S l F W m))) := Lib.hid (by rw [tw3_no hc0.out]; exact own_below ow2.out hb7)
  clear ho7 hb7 ow2 tq2 ta tb tc td te
  have hn3 := tw3_len (S := S) (l := l) (F := F) (W := W) (m := m)
  have hncw := cwU_len S W S.length
  have hjs : (jnS 32 (tw3 S l F W m ++ cwU S W S.length)).size ≤ 10000000 := hjz.out
  go_wp2_with (at_builtin; go_loud (refine wpList_append_rd _ rfl (.tmp 46) (.tmp 47) 72 rfl (w.heap.size + 1) 9 i0 (.string ⟨#[]⟩) 1 16 Tryd.underlying72 hii hz0 hz1 hz2 rfl (by decide) _ (tw3 S l F W m).length (tC (tw3 S l F W m)) rfl (ow3.out) _ (cwU S W S.length).length c7 rfl hc7 hn7 (tC (cwU S W S.length)) (by rw [tC_len, Nat.mul_one]) (hrc.out) (tC_one _) (by unfold maxLen; omega) (by omega) hkw ?_); intro v9 w9 hown9 hgrow9 hwhere9)
  have hsA := ow3.out.lt
  obtain ⟨hb9, -⟩ := append_below0 hBk (fun k hk => by have := (hsA k hk).1; omega) hgrow9 hwhere9
  have ow9 := own_eq (n' := (tw3 S l F W m ++ cwU S W S.length).length) (ys := tC (tw3 S l F W m ++ cwU S W S.length)) hown9 (by rw [List.length_append]) (tC_app _ _).symm
  obtain ⟨g9, c9, rfl⟩ := own_some2 ow9 (by rw [List.length_append]; omega)
  have hc9 : (tw3 S l F W m ++ cwU S W S.length).length ≤ c9 := by obtain ⟨a, b, e1, e2, -⟩ := (OwR.of ow9).form; injection e1 with _ _ e3; omega
  have hrd9 := Lib.hid (Rd.of_own ow9)
  have hln9 : (tw3 S l F W m ++ cwU S W S.length).length ≤ 1000 := by rw [List.length_append]; omega
  have hl19 : 1 ≤ (tw3 S l F W m ++ cwU S W S.length).length := by rw [List.length_append]; omega
  have hjn := join_S g9 c9 32 (tw3 S l F W m ++ cwU S W S.length) w9 hl19 hln9 hc9 hjs hrd9.out
  have hjnh := Lib.hid hjn
  clear hown9 hgrow9 hwhere9 ow9 hsA hjn
  go_wp2_with fail
  refine hjnh.out.mono ?_
  rintro e w10 ⟨rfl, hb10⟩
  go_wp2
  go_ret
  exact ⟨by first | rfl | (rw [← hmq.out]; rfl), Below.via' hb9 hb10⟩
set_option maxHeartbeats 8000000 in
theorem tt111 (y x z : Option Addr) (c1 c2 c3 : Nat) (P : List Int) (S : List (ByteArray × Int)) (l : Int) (F W : List Int) (m : Int) (w : World) (htg : TgP P S l F W m) (hS : SIn w y c1 S) (hT : TIn w x z F W) (hm : Hid (m ≠ -1)) (hF0 : Hid (F.length ≠ 0)) (hc0 : Hid ((cwU S W S.length).length ≠ 0)) :
    Calls Tryd.prog 25 #[.slice y S.length c1, .agg #[.int .i64 l, .slice x F.length c2, .slice z W.length c3, .int .i64 m]] w fun e w' => e = .returned (.string (ttT S l F W m)) ∧ Below w.heap.size w w' := by
  obtain ⟨i0, hii, hz0, hz1, hz2⟩ := info_parts Tryd.infoStr
  have hSh := Lib.hid hS
  have hFh := Lib.hid hT.1
  have hWh := Lib.hid hT.2
  have hth := Lib.hid htg
  have hlv := tg_lv htg
  have h6 := (schB_len htg.s).2
  have hm1 := htg.m1
  have hm0 := htg.m0
  have hjz := Lib.hid (tt_size (l := l) (F := F) (W := W) (m := m) htg)
  clear hS hT htg
  have q0 := Lib.hid (TQ.new w l x F.length c2 z W.length c3 m 37)
  obtain ⟨q, rfl⟩ := Int.eq_ofNat_of_zero_le (show 0 ≤ m by have := hm.out; omega)
  obtain ⟨bl, off, nm, lv, rfl, hbl, hSq, hk0, hk1⟩ := hSh.out.rd.var (i := q) (by omega)
  have hnq := naA_at hSq
  have hqt : ((q : Nat) : Int).toNat = q := Int.toNat_natCast q
  have e1 : ((q : Int) != -1) = true := by rw [bne_iff_ne]; exact hm.out
  have hq0 : (0 : Int) ≤ (q : Int) := by omega
  have hq1 : (q : Int) < (S.length : Int) := by omega
  obtain ⟨wa, hwa⟩ : ∃ wa, wa = ((w.alloc (.cells #[.int .i64 l, .slice x F.length c2, .slice z W.length c3, .int .i64 (q : Int)] 37)).alloc (.cells #[.string ⟨#[99, 111, 117, 110, 116]⟩] 9)).alloc (.cells #[.string ⟨#[115, 117, 109]⟩, .string nm] 9) := ⟨_, rfl⟩
  have ow0 : wa.ownsRow (w.heap.size + 1) 9 1 (.slice (some ⟨w.heap.size + 1 + 1, 0, none⟩) 2 2) (tw0 S (q : Int)).length (tC (tw0 S (q : Int))) := by
    rw [tw0_yes hm.out, hqt, hnq, hwa]
    have h0 := World.ownsRow_lit (base := w.heap.size + 1) (e := 9) (size := 1) ((w.alloc (.cells #[.int .i64 l, .slice x F.length c2, .slice z W.length c3, .int .i64 (q : Int)] 37)).alloc (.cells #[.string ⟨#[99, 111, 117, 110, 116]⟩] 9)) #[.string ⟨#[115, 117, 109]⟩, .string nm] 2 (by simp) (by unfold maxLen; omega) rfl
    rw [World.size_alloc, World.size_alloc] at h0
    exact h0
  have tq0 : TQ wa w.heap.size l x F.length c2 z W.length c3 (q : Int) := by rw [hwa]; exact q0.out.below (by repeat (first | exact Below.refl _ _ | assumption | refine Below.drew ?_ | refine below_drewN ?_ _ | refine Below.alloc' ?_ _ | (refine Below.setCell ?_ (by first | omega | (simp; done) | (simp; omega) | exact Below.size (by assumption) | exact Nat.le_trans (Below.size (by assumption)) (by simp)) _) | (refine Below.via' ?_ (by assumption)) | (refine Below.alloc ?_ (by first | omega | (simp; done) | (simp; omega) | exact Below.size (by assumption) | exact Nat.le_trans (Below.size (by assumption)) (by simp)) _) | (refine Below.via ?_ (by assumption) (by first | omega | (simp; done) | (simp; omega) | exact Below.size (by assumption) | exact Nat.le_trans (Below.size (by assumption)) (by simp)))))
  have hB0 : Below w.heap.size w wa := by rw [hwa]; exact (by repeat (first | exact Below.refl _ _ | assumption | refine Below.drew ?_ | refine below_drewN ?_ _ | refine Below.alloc' ?_ _ | (refine Below.setCell ?_ (by first | omega | (simp; done) | (simp; omega) | exact Below.size (by assumption) | exact Nat.le_trans (Below.size (by assumption)) (by simp)) _) | (refine Below.via' ?_ (by assumption)) | (refine Below.alloc ?_ (by first | omega | (simp; done) | (simp; omega) | exact Below.size (by assumption) | exact Nat.le_trans (Below.size (by assumption)) (by simp)) _) | (refine Below.via ?_ (by assumption) (by first | omega | (simp; done) | (simp; omega) | exact Below.size (by assumption) | exact Nat.le_trans (Below.size (by assumption)) (by simp)))))
  replace ow0 := Lib.hid ow0
  replace tq0 := Lib.hid tq0
  replace hwa := Lib.hid hwa
  have hza : w.heap.size + 1 < wa.heap.size := by rw [hwa.out]; simp <;> omega
  clear q0
  replace hSq := Lib.hid hSq
  replace hnq := Lib.hid hnq
  replace hqt := Lib.hid hqt
  go_enter Tryd.func25, Tryd.ntmps25
  go_upto_region 4 with fail
  rw [← hwa.out]
  obtain ⟨m, hmq⟩ : ∃ m : Int, m = (q : Int) := ⟨_, rfl⟩
  rw [← hmq] at ow0 tq0 hth hjz ⊢
  replace hmq := Lib.hid hmq
  have hft : (0 : Int) < (F.length : Int) := by have := hF0.out; omega
  have hn0 := tw0_len (S := S) (m := m)
  have hn1 := tw1_len (S := S) (l := l) (m := m)
  have hs0 := Lib.hid ow0.out.lt
  obtain ⟨t0a, t0b, t0c, t0d, t0e⟩ := tq0.out
  go_wp2_with fail
  refine (itoa_E l _ hlv.1 (by omega)).mono ?_
  rintro e w1 ⟨rfl, rfl⟩
  go_wp2_with (at_builtin; go_loud (refine wpList_append_rd _ rfl (.tmp 18) (.tmp 22) 72 rfl (w.heap.size + 1) 9 i0 (.string ⟨#[]⟩) 1 16 Tryd.underlying72 hii hz0 hz1 hz2 rfl (by decide) _ (tw0 S m).length (tC (tw0 S m)) rfl (ow0.out.alloc _) _ 2 2 rfl (Nat.le_refl _) (by intro h; cases h) (tC [wLevel, numZ l]) rfl (Rd.twoS _ _ _ _) (tC_one _) (by unfold maxLen; omega) (by omega) (by simp; omega) ?_); intro v3 w3 hown3 hgrow3 hwhere3; (have tq3 := Lib.hid ((tq0.out.below (Below.alloc' (Below.refl _ _) _)).grown hgrow3 (fun e => by have := (hs0.out _ e.symm).1; omega))); (obtain ⟨ta, tb, tc, td, te⟩ := tq3.out))
  obtain ⟨hb3, -⟩ := append_below hB0 (fun k hk => by have := (hs0.out k hk).1; omega) hgrow3 hwhere3
  have hw3 : w.heap.size + 1 ≤ w3.heap.size := by have := hgrow3.size; simp at this; omega
  have ow3 := Lib.hid (own_eq (n' := (tw1 S l m).length) (ys := tC (tw1 S l m)) hown3 (by unfold tw1; simp) (by unfold tw1; rw [tC_app]))
  clear hown3 hgrow3 hwhere3 ow0 tq0 hs0 t0a t0b t0c t0d t0e
  have hnF := ptS_len (tbS_ok hth.out.s hth.out.r)
  have hnT := tbS_len S F
  have hip := Lib.hid (inP_of hth.out.s hth.out.r rfl)
  go_wp2_with fail
  refine (elemsV_any _ _ _ _ S F _ hip.out (hSh.out.rd.below hb3) (hFh.out.below hb3).2.2).mono ?_
  rintro e w4 ⟨rfl, hoE, hb4⟩
  have hB4 := Below.via' hb3 hb4
  have hw4 : w.heap.size + 1 ≤ w4.heap.size := Nat.le_trans hw3 hb4.size
  have hn := namesText_any (some ⟨w3.heap.size, 0, none⟩) F.length (tbS S F) w4 (by have := hF0.out; omega) (by omega) (fun p hp => by
    obtain ⟨k, hk, hk2⟩ := List.getElem_of_mem hp
    obtain ⟨i, hi, hSi⟩ := tbS_get hth.out.r (k := k) (p := p) (by rw [List.getElem?_eq_getElem hk, hk2])
    exact nm_size hth.out.s (List.mem_of_getElem? hSi)) (Rd.of_own hoE)
  rw [tbS_len] at hn
  have hnh := Lib.hid hn
  clear hoE hn
  go_wp2_with fail
  refine hnh.out.mono ?_
  rintro e w5 ⟨rfl, hb5⟩
  have hB5 := Below.via' hB4 hb5
  have hw5 : w.heap.size + 1 ≤ w5.heap.size := Nat.le_trans hw4 hb5.size
  have ow5 := Lib.hid (own_below (own_below ow3.out hb4) hb5)
  have tq5 := Lib.hid ((tq3.out.below hb4).below hb5)
  have hs5 := Lib.hid ow5.out.lt
  have hn2 := tw2_len (S := S) (l := l) (F := F) (m := m)
  clear ow3 tq3 ta tb tc td te hb4 hb5 hnh
  obtain ⟨t5a, t5b, t5c, t5d, t5e⟩ := tq5.out
  obtain ⟨vv, hvv⟩ : ∃ vv, vv = v3 := ⟨_, rfl⟩
  rw [← hvv] at ow5 hs5 ⊢
  clear hvv
  go_wp2_with (at_builtin; go_loud (refine wpList_append_rd _ rfl (.tmp 28) (.tmp 34) 72 rfl (w.heap.size + 1) 9 i0 (.string ⟨#[]⟩) 1 16 Tryd.underlying72 hii hz0 hz1 hz2 rfl (by decide) _ (tw1 S l m).length (tC (tw1 S l m)) rfl (ow5.out.alloc _) _ 2 2 rfl (Nat.le_refl _) (by intro h; cases h) (tC [wBy, jnS 44 (nsL S F)]) rfl (Rd.twoS _ _ _ _) (tC_one _) (by unfold maxLen; omega) (by omega) (by simp; omega) ?_); intro v6 w6 hown6 hgrow6 hwhere6; (have tq2 := Lib.hid ((tq5.out.below (Below.alloc' (Below.refl _ _) _)).grown hgrow6 (fun e => by have := (hs5.out _ e.symm).1; omega))); (obtain ⟨ta, tb, tc, td, te⟩ := tq2.out))
  obtain ⟨hB2, -⟩ := append_below hB5 (fun k hk => by have := (hs5.out k hk).1; omega) hgrow6 hwhere6
  have hw2 : w.heap.size + 1 ≤ w6.heap.size := by have := hgrow6.size; simp at this; omega
  have ow2 := Lib.hid (own_eq (n' := (tw2 S l F m).length) (ys := tC (tw2 S l F m)) hown6 (by rw [tw2_yes hF0.out]; simp) (by rw [tw2_yes hF0.out, tC_app]))
  obtain ⟨u2, hu2⟩ : ∃ u2, u2 = v6 := ⟨_, rfl⟩
  rw [← hu2] at ow2 ⊢
  clear hown6 hgrow6 hwhere6 ow5 tq5 hs5 hu2 t5a t5b t5c t5d t5e
  have hct : (0 : Int) < ((cwU S W S.length).length : Int) := by have := hc0.out; omega
  have hn2 := tw2_len (S := S) (l := l) (F := F) (m := m)
  go_wp2_with fail
  refine (condWords_any _ _ _ _ S W _ hth.out.s hth.out.w (hSh.out.below hB2) (hWh.out.below hB2)).mono ?_
  rintro e wj ⟨u7, rfl, ho7, hb7⟩
  have hBj := Below.via' hB2 hb7
  have hjw : w.heap.size + 1 ≤ wj.heap.size := Nat.le_trans hw2 hb7.size
  obtain ⟨x7, c7, rfl, hc7, hn7⟩ := (OwR.of ho7).form
  have hrj := Lib.hid (OwR.of ho7)
  have owk := Lib.hid (own_below ow2.out hb7)
  have hsk := Lib.hid owk.out.lt
  have hs2k := Lib.hid ow2.out.lt
  clear ho7 ow2 tq2 ta tb tc td te
  have hn3 := tw3_len (S := S) (l := l) (F := F) (W := W) (m := m)
  have hncw := cwU_len S W S.length
  have hjs : (jnS 32 (tw3 S l F W m ++ cwU S W S.length)).size ≤ 10000000 := hjz.out
  go_wp2_with (first | (at_builtin; go_loud (refine wpList_append_rd _ rfl (.tmp 43) (.tmp 44) 72 rfl (w.heap.size + 1) 9 i0 (.string ⟨#[]⟩) 1 16 Tryd.underlying72 hii hz0 hz1 hz2 rfl (by decide) _ (tw2 S l F m).length (tC (tw2 S l F m)) rfl (owk.out.alloc _) _ 1 1 rfl (Nat.le_refl _) (by intro h; cases h) (tC [wWhere]) rfl (Rd.oneS _ _ _) (tC_one _) (by unfold maxLen; omega) (by omega) (by simp; omega) ?_); intro v3 w3 hown3 hgrow3 hwhere3; (have hkw : w.heap.size + 1 ≤ w3.heap.size := by have := hgrow3.size; simp at this; omega); (have ow3 := Lib.hid (own_eq (n' := (tw3 S l F W m).length) (ys := tC (tw3 S l F W m)) hown3 (by rw [tw3_yes hc0.out]; simp) (by rw [tw3_yes hc0.out, tC_app]))); (have hrc := Lib.hid (((hrj.out.below (Below.alloc' (Below.refl _ _) _)).keep hgrow3 (fun k hk => by have := (hs2k.out k hk).2; exact Or.inl (by omega))).rd))) | (at_builtin; go_loud (refine wpList_append_rd _ rfl (.tmp 46) (.tmp 47) 72 rfl (w.heap.size + 1) 9 i0 (.string ⟨#[]⟩) 1 16 Tryd.underlying72 hii hz0 hz1 hz2 rfl (by decide) _ (tw3 S l F W m).length (tC (tw3 S l F W m)) rfl (ow3.out) _ (cwU S W S.length).length c7 rfl hc7 hn7 (tC (cwU S W S.length)) (by rw [tC_len, Nat.mul_one]) (hrc.out) (tC_one _) (by unfold maxLen; omega) (by omega) hkw ?_); intro v9 w9 hown9 hgrow9 hwhere9))
  obtain ⟨hBk, -⟩ := append_below hBj (fun k hk => by have := (hsk.out k hk).1; omega) hgrow3 hwhere3
  clear hown3 hgrow3 hwhere3 owk hsk hs2k hrj hb7
  have hsA := ow3.out.lt
  obtain ⟨hb9, -⟩ := append_below0 hBk (fun k hk => by have := (hsA k hk).1; omega) hgrow9 hwhere9
  have ow9 := own_eq (n' := (tw3 S l F W m ++ cwU S W S.length).length) (ys := tC (tw3 S l F W m ++ cwU S W S.length)) hown9 (by rw [List.length_append]) (tC_app _ _).symm
  obtain ⟨g9, c9, rfl⟩ := own_some2 ow9 (by rw [List.length_append]; omega)
  have hc9 : (tw3 S l F W m ++ cwU S W S.length).length ≤ c9 := by obtain ⟨a, b, e1, e2, -⟩ := (OwR.of ow9).form; injection e1 with _ _ e3; omega
  have hrd9 := Lib.hid (Rd.of_own ow9)
  have hln9 : (tw3 S l F W m ++ cwU S W S.length).length ≤ 1000 := by rw [List.length_append]; omega
  have hl19 : 1 ≤ (tw3 S l F W m ++ cwU S W S.length).length := by rw [List.length_append]; omega
  have hjn := join_S g9 c9 32 (tw3 S l F W m ++ cwU S W S.length) w9 hl19 hln9 hc9 hjs hrd9.out
  have hjnh := Lib.hid hjn
  clear hown9 hgrow9 hwhere9 ow9 hsA hjn
  go_wp2_with fail
  refine hjnh.out.mono ?_
  rintro e w10 ⟨rfl, hb10⟩
  go_wp2
  go_ret
  exact ⟨by first | rfl | (rw [← hmq.out]; rfl), Below.via' hb9 hb10⟩
theorem tableText_any (y x z : Option Addr) (c1 c2 c3 : Nat) (P : List Int) (S : List (ByteArray × Int)) (l : Int) (F W : List Int) (m : Int) (w : World) (htg : TgP P S l F W m) (hS : SIn w y c1 S) (hT : TIn w x z F W) :
    Calls Tryd.prog 25 #[.slice y S.length c1, .agg #[.int .i64 l, .slice x F.length c2, .slice z W.length c3, .int .i64 m]] w fun e w' => e = .returned (.string (ttT S l F W m)) ∧ Below w.heap.size w w' := by
  by_cases hm : m = -1 <;> by_cases hF0 : F.length = 0 <;> by_cases hc0 : (cwU S W S.length).length = 0
  exact tt000 y x z c1 c2 c3 P S l F W m w htg hS hT (Lib.hid hm) (Lib.hid hF0) (Lib.hid hc0)
  exact tt001 y x z c1 c2 c3 P S l F W m w htg hS hT (Lib.hid hm) (Lib.hid hF0) (Lib.hid hc0)
  exact tt010 y x z c1 c2 c3 P S l F W m w htg hS hT (Lib.hid hm) (Lib.hid hF0) (Lib.hid hc0)
  exact tt011 y x z c1 c2 c3 P S l F W m w htg hS hT (Lib.hid hm) (Lib.hid hF0) (Lib.hid hc0)
  exact tt100 y x z c1 c2 c3 P S l F W m w htg hS hT (Lib.hid hm) (Lib.hid hF0) (Lib.hid hc0)
  exact tt101 y x z c1 c2 c3 P S l F W m w htg hS hT (Lib.hid hm) (Lib.hid hF0) (Lib.hid hc0)
  exact tt110 y x z c1 c2 c3 P S l F W m w htg hS hT (Lib.hid hm) (Lib.hid hF0) (Lib.hid hc0)
  exact tt111 y x z c1 c2 c3 P S l F W m w htg hS hT (Lib.hid hm) (Lib.hid hF0) (Lib.hid hc0)
end Go.Proofs.YtgkaalonmkcclaaDoor
