/-
  Chapter 7: weights and costs of changes: the mathematics, and the walks of ChangeCost, the model's and the program's.
-/
import Derived.Test.YtnmpigedhpdenabDfv
import Derived.Test.YtnmpigedhpdenabEdX
import Derived.Test.YtnmpigedhpdenabGrpW
namespace Go.Proofs.Ytnmpigedhpdenab
open Go.RowKit
set_option maxRecDepth 100000

/-- One weight for each variable. -/
def wgB (S : List (ByteArray × Int)) (W : List Int) : Bool := decide (W.length = S.length) && inR W 1 100
theorem wg_no1 {S : List (ByteArray × Int)} {W : List Int} (h : W.length ≠ S.length) : wgB S W = false := by unfold wgB; rw [decide_eq_false h]; rfl
theorem wg_no2 {S : List (ByteArray × Int)} {W : List Int} (h : inR W 1 100 = false) : wgB S W = false := by unfold wgB; rw [h, Bool.and_false]
theorem wg_yes {S : List (ByteArray × Int)} {W : List Int} (h : W.length = S.length) (k : inR W 1 100 = true) : wgB S W = true := by unfold wgB; rw [decide_eq_true h, k]; rfl
theorem wg_get {S : List (ByteArray × Int)} {W : List Int} (h : wgB S W = true) : W.length = S.length ∧ inR W 1 100 = true := by
  unfold wgB at h
  rw [Bool.and_eq_true] at h
  exact ⟨of_decide_eq_true h.1, h.2⟩
theorem inR_at {G : List Int} {lo hi v : Int} {i : Nat} (h : inR G lo hi = true) (hi' : G[i]? = some v) : lo ≤ v ∧ v ≤ hi := by
  unfold inR at h
  rw [List.all_eq_true] at h
  exact (inB_iff v lo hi).1 (h v (List.mem_of_getElem? hi')) |> fun k => k
/-- The weight of a variable; the weights of a set. -/
def wtA (W : List Int) (v : Int) : Int := (W[v.toNat]?).getD 0
def swZ (W L : List Int) : Int := (L.map (wtA W)).sum
theorem wtA_at {W : List Int} {i : Nat} {n : Int} (h : W[i]? = some n) : wtA W (i : Int) = n := by unfold wtA; rw [Int.toNat_natCast, h]; rfl
theorem wtA_bd {W : List Int} (h : inR W 1 100 = true) (v : Int) : 0 ≤ wtA W v ∧ wtA W v ≤ 100 := by
  unfold wtA
  cases e : W[v.toNat]? with
  | none => exact ⟨by simp, by simp⟩
  | some n => have := inR_at h e; exact ⟨by simp; omega, by simp; omega⟩
theorem sw_snoc (W L : List Int) (v : Int) : swZ W (L ++ [v]) = swZ W L + wtA W v := by unfold swZ; rw [List.map_append, List.sum_append]; simp
theorem sw_bd {W : List Int} (h : inR W 1 100 = true) : ∀ L : List Int, 0 ≤ swZ W L ∧ swZ W L ≤ 100 * (L.length : Int)
  | [] => ⟨by simp [swZ], by simp [swZ]⟩
  | v :: L => by
    have a := sw_bd h L
    have b := wtA_bd h v
    have e : swZ W (v :: L) = wtA W v + swZ W L := by unfold swZ; simp
    rw [e, List.length_cons]
    exact ⟨by omega, by omega⟩
theorem sw_take {W L : List Int} {i : Nat} {v : Int} (h : L[i]? = some v) : swZ W (L.take (i + 1)) = swZ W (L.take i) + wtA W v := by
  rw [List.take_add_one, h, Option.toList_some, sw_snoc]
/-- The cost of a change, variable by variable. -/
def chZ (W A B : List Int) (n : Nat) : Int := swZ W (pkUp (dvB A B) n)
theorem ch_yes {W A B : List Int} {i : Nat} (h : dvB A B i = true) : chZ W A B (i + 1) = chZ W A B i + wtA W (i : Int) := by unfold chZ; rw [pkUp_yes h, sw_snoc]
theorem ch_no {W A B : List Int} {i : Nat} (h : dvB A B i = false) : chZ W A B (i + 1) = chZ W A B i := by unfold chZ; rw [pkUp_no h]
theorem ch_bd {W A B : List Int} {n : Nat} (h : inR W 1 100 = true) : 0 ≤ chZ W A B n ∧ chZ W A B n ≤ 100 * (n : Int) := by
  have a := sw_bd h (pkUp (dvB A B) n)
  have b := pkUp_len (dvB A B) n
  unfold chZ
  exact ⟨a.1, by omega⟩

set_option maxHeartbeats 1000000 in
theorem areWeights_any (x y : Option Addr) (c1 c2 : Nat) (S : List (ByteArray × Int)) (W : List Int) (w : World) (hm : S.length ≤ 1048576) (hW : IIn w y W) :
    Calls Try.prog 152 #[.slice x S.length c1, .slice y W.length c2] w fun e w' => e = .returned (.bool (wgB S W)) ∧ Below w.heap.size w w' := by
  have hWh := Lib.hid hW
  have hWl := hW.1
  clear hW
  by_cases hlen : W.length = S.length
  · have hne : ((W.length : Int) != (S.length : Int)) = false := by rw [bne_eq_false_iff_eq]; omega
    go_enter Try.func152, Try.ntmps152
    go_wp2
    go_loopw [14] (fun c wr => ∃ i : Nat, i ≤ W.length ∧ c = .int .i64 i ∧ Hid (∀ j, j < i → ∃ v, W[j]? = some v ∧ inB v 1 100 = true) ∧ Below w.heap.size w wr) (fun c _ => W.length - (intOf c).toNat)
    case atStart => exact ⟨0, by omega, rfl, (fun j hj => absurd hj (by omega)), (by repeat (first | exact Below.refl _ _ | assumption | refine Below.drew ?_ | refine below_drewN ?_ _ | refine Below.alloc' ?_ _ | (refine Below.setCell ?_ (by first | omega | (simp; done) | (simp; omega) | exact Below.size (by assumption) | exact Nat.le_trans (Below.size (by assumption)) (by simp)) _) | (refine Below.via' ?_ (by assumption)) | (refine Below.alloc ?_ (by first | omega | (simp; done) | (simp; omega) | exact Below.size (by assumption) | exact Nat.le_trans (Below.size (by assumption)) (by simp)) _) | (refine Below.via ?_ (by assumption) (by first | omega | (simp; done) | (simp; omega) | exact Below.size (by assumption) | exact Nat.le_trans (Below.size (by assumption)) (by simp)))))⟩
    case round =>
      obtain ⟨i, hi, rfl, hall, hb⟩ := hrel
      by_cases hlt : i < W.length
      · obtain ⟨bl, off, v, rfl, hbl, hWi, hc0⟩ := (hWh.out.below hb).2.2.int hlt
        have hlt' : (i : Int) < (W.length : Int) := by omega
        have hi0 : (0 : Int) ≤ (i : Int) := by omega
        by_cases h1 : v < 1
        · have hv := Lib.hid (wg_no2 (S := S) (inR_bad hWi ((inB_no v 1 100).2 (by omega))))
          clear hWi
          go_wp2
          go_ret
          exact ⟨ret_bool hv.out.symm, (by repeat (first | exact Below.refl _ _ | assumption | refine Below.drew ?_ | refine below_drewN ?_ _ | refine Below.alloc' ?_ _ | (refine Below.setCell ?_ (by first | omega | (simp; done) | (simp; omega) | exact Below.size (by assumption) | exact Nat.le_trans (Below.size (by assumption)) (by simp)) _) | (refine Below.via' ?_ (by assumption)) | (refine Below.alloc ?_ (by first | omega | (simp; done) | (simp; omega) | exact Below.size (by assumption) | exact Nat.le_trans (Below.size (by assumption)) (by simp)) _) | (refine Below.via ?_ (by assumption) (by first | omega | (simp; done) | (simp; omega) | exact Below.size (by assumption) | exact Nat.le_trans (Below.size (by assumption)) (by simp)))))⟩
        by_cases h2 : 100 < v
        · have hv := Lib.hid (wg_no2 (S := S) (inR_bad hWi ((inB_no v 1 100).2 (by omega))))
          clear hWi
          go_wp2
          go_ret
          exact ⟨ret_bool hv.out.symm, (by repeat (first | exact Below.refl _ _ | assumption | refine Below.drew ?_ | refine below_drewN ?_ _ | refine Below.alloc' ?_ _ | (refine Below.setCell ?_ (by first | omega | (simp; done) | (simp; omega) | exact Below.size (by assumption) | exact Nat.le_trans (Below.size (by assumption)) (by simp)) _) | (refine Below.via' ?_ (by assumption)) | (refine Below.alloc ?_ (by first | omega | (simp; done) | (simp; omega) | exact Below.size (by assumption) | exact Nat.le_trans (Below.size (by assumption)) (by simp)) _) | (refine Below.via ?_ (by assumption) (by first | omega | (simp; done) | (simp; omega) | exact Below.size (by assumption) | exact Nat.le_trans (Below.size (by assumption)) (by simp)))))⟩
        have hgood := (inB_iff v 1 100).2 ⟨by omega, by omega⟩
        replace hWi := Lib.hid hWi
        go_wp2
        go_roundw
        case rel =>
          refine ⟨i + 1, by omega, by go_num, fun j hj => ?_, (by repeat (first | exact Below.refl _ _ | assumption | refine Below.drew ?_ | refine below_drewN ?_ _ | refine Below.alloc' ?_ _ | (refine Below.setCell ?_ (by first | omega | (simp; done) | (simp; omega) | exact Below.size (by assumption) | exact Nat.le_trans (Below.size (by assumption)) (by simp)) _) | (refine Below.via' ?_ (by assumption)) | (refine Below.alloc ?_ (by first | omega | (simp; done) | (simp; omega) | exact Below.size (by assumption) | exact Nat.le_trans (Below.size (by assumption)) (by simp)) _) | (refine Below.via ?_ (by assumption) (by first | omega | (simp; done) | (simp; omega) | exact Below.size (by assumption) | exact Nat.le_trans (Below.size (by assumption)) (by simp)))))⟩
          rcases Nat.lt_or_ge j i with hj2 | hj2
          · exact hall.out j hj2
          · obtain rfl : j = i := by omega
            exact ⟨v, hWi.out, hgood⟩
        case measure => simp [intOf]; omega
      · have hij : i = W.length := by omega
        subst hij
        have hv := Lib.hid (wg_yes hlen (inR_all hall.out))
        clear hall
        go_wp2
        go_ret
        exact ⟨ret_bool hv.out.symm, (by repeat (first | exact Below.refl _ _ | assumption | refine Below.drew ?_ | refine below_drewN ?_ _ | refine Below.alloc' ?_ _ | (refine Below.setCell ?_ (by first | omega | (simp; done) | (simp; omega) | exact Below.size (by assumption) | exact Nat.le_trans (Below.size (by assumption)) (by simp)) _) | (refine Below.via' ?_ (by assumption)) | (refine Below.alloc ?_ (by first | omega | (simp; done) | (simp; omega) | exact Below.size (by assumption) | exact Nat.le_trans (Below.size (by assumption)) (by simp)) _) | (refine Below.via ?_ (by assumption) (by first | omega | (simp; done) | (simp; omega) | exact Below.size (by assumption) | exact Nat.le_trans (Below.size (by assumption)) (by simp)))))⟩
  · have hne : ((W.length : Int) != (S.length : Int)) = true := by rw [bne_iff_ne]; omega
    have hv := Lib.hid (wg_no1 hlen)
    go_enter Try.func152, Try.ntmps152
    go_wp2
    go_ret
    exact ⟨ret_bool hv.out.symm, (by repeat (first | exact Below.refl _ _ | assumption | refine Below.drew ?_ | refine below_drewN ?_ _ | refine Below.alloc' ?_ _ | (refine Below.setCell ?_ (by first | omega | (simp; done) | (simp; omega) | exact Below.size (by assumption) | exact Nat.le_trans (Below.size (by assumption)) (by simp)) _) | (refine Below.via' ?_ (by assumption)) | (refine Below.alloc ?_ (by first | omega | (simp; done) | (simp; omega) | exact Below.size (by assumption) | exact Nat.le_trans (Below.size (by assumption)) (by simp)) _) | (refine Below.via ?_ (by assumption) (by first | omega | (simp; done) | (simp; omega) | exact Below.size (by assumption) | exact Nat.le_trans (Below.size (by assumption)) (by simp)))))⟩
set_option maxHeartbeats 1000000 in
theorem iWeights_any (x y : Option Addr) (c1 c2 : Nat) (S : List (ByteArray × Int)) (W : List Int) (w : World) (hW : IIn w y W) :
    Calls Try.prog 150 #[.slice x S.length c1, .slice y W.length c2] w fun e w' => e = .returned (.bool (wgB S W)) ∧ Below w.heap.size w w' := by
  have hWh := Lib.hid hW
  have hWl := hW.1
  clear hW
  by_cases hlen : W.length = S.length
  · have hne : ((W.length : Int) == (S.length : Int)) = true := by rw [beq_iff_eq]; omega
    have hv : Hid (inR W 1 100 = wgB S W) := by
      unfold Hid
      cases h : inR W 1 100
      · rw [wg_no2 h]
      · rw [wg_yes hlen h]
    replace hlen := Lib.hid hlen
    go_enter Try.func150, Try.ntmps150
    go_wp2_with (go_at_call 87; refine (l1All_any _ _ W _ _ _ hWl (hWh.out.2.2.below (by exact (by repeat (first | exact Below.refl _ _ | assumption | refine Below.drew ?_ | refine below_drewN ?_ _ | refine Below.alloc' ?_ _ | (refine Below.setCell ?_ (by first | omega | (simp; done) | (simp; omega) | exact Below.size (by assumption) | exact Nat.le_trans (Below.size (by assumption)) (by simp)) _) | (refine Below.via' ?_ (by assumption)) | (refine Below.alloc ?_ (by first | omega | (simp; done) | (simp; omega) | exact Below.size (by assumption) | exact Nat.le_trans (Below.size (by assumption)) (by simp)) _) | (refine Below.via ?_ (by assumption) (by first | omega | (simp; done) | (simp; omega) | exact Below.size (by assumption) | exact Nat.le_trans (Below.size (by assumption)) (by simp)))))))).mono ?_; rintro e w1 ⟨rfl, rfl⟩)
    go_ret
    exact ⟨ret_bool hv.out, (by repeat (first | exact Below.refl _ _ | assumption | refine Below.drew ?_ | refine below_drewN ?_ _ | refine Below.alloc' ?_ _ | (refine Below.setCell ?_ (by first | omega | (simp; done) | (simp; omega) | exact Below.size (by assumption) | exact Nat.le_trans (Below.size (by assumption)) (by simp)) _) | (refine Below.via' ?_ (by assumption)) | (refine Below.alloc ?_ (by first | omega | (simp; done) | (simp; omega) | exact Below.size (by assumption) | exact Nat.le_trans (Below.size (by assumption)) (by simp)) _) | (refine Below.via ?_ (by assumption) (by first | omega | (simp; done) | (simp; omega) | exact Below.size (by assumption) | exact Nat.le_trans (Below.size (by assumption)) (by simp)))))⟩
  · have hne : ((W.length : Int) == (S.length : Int)) = false := by rw [beq_eq_false_iff_ne]; omega
    have hv := Lib.hid (wg_no1 hlen)
    go_enter Try.func150, Try.ntmps150
    go_wp2
    go_ret
    exact ⟨ret_bool hv.out.symm, (by repeat (first | exact Below.refl _ _ | assumption | refine Below.drew ?_ | refine below_drewN ?_ _ | refine Below.alloc' ?_ _ | (refine Below.setCell ?_ (by first | omega | (simp; done) | (simp; omega) | exact Below.size (by assumption) | exact Nat.le_trans (Below.size (by assumption)) (by simp)) _) | (refine Below.via' ?_ (by assumption)) | (refine Below.alloc ?_ (by first | omega | (simp; done) | (simp; omega) | exact Below.size (by assumption) | exact Nat.le_trans (Below.size (by assumption)) (by simp)) _) | (refine Below.via ?_ (by assumption) (by first | omega | (simp; done) | (simp; omega) | exact Below.size (by assumption) | exact Nat.le_trans (Below.size (by assumption)) (by simp)))))⟩
set_option maxHeartbeats 1000000 in
theorem sumWeights_any (x y : Option Addr) (c1 c2 : Nat) (W L : List Int) (w : World) (hw : inR W 1 100 = true) (hl : L.length ≤ 1000) (hL : ∀ v ∈ L, 0 ≤ v ∧ v < (W.length : Int)) (hWi : IIn w x W) (hLi : IIn w y L) :
    Calls Try.prog 83 #[.slice x W.length c1, .slice y L.length c2] w fun e w' => e = .returned (.int .i64 (swZ W L)) ∧ Below w.heap.size w w' := by
  have hWh := Lib.hid hWi
  have hWl := hWi.1
  have hLh := Lib.hid hLi
  have hb0 := Lib.hid (fun M : List Int => sw_bd hw M)
  have hwt := Lib.hid (wtA_bd hw)
  have hLm := Lib.hid hL
  clear hWi hLi hL
  go_enter Try.func83, Try.ntmps83
  go_wp2
  go_loopw [5, 10] (fun q c wr => ∃ i : Nat, i ≤ L.length ∧ c = .int .i64 i ∧ q = .int .i64 (swZ W (L.take i)) ∧ Below w.heap.size w wr) (fun _ c _ => L.length - (intOf c).toNat)
  case atStart => exact ⟨0, by omega, rfl, rfl, (by repeat (first | exact Below.refl _ _ | assumption | refine Below.drew ?_ | refine below_drewN ?_ _ | refine Below.alloc' ?_ _ | (refine Below.setCell ?_ (by first | omega | (simp; done) | (simp; omega) | exact Below.size (by assumption) | exact Nat.le_trans (Below.size (by assumption)) (by simp)) _) | (refine Below.via' ?_ (by assumption)) | (refine Below.alloc ?_ (by first | omega | (simp; done) | (simp; omega) | exact Below.size (by assumption) | exact Nat.le_trans (Below.size (by assumption)) (by simp)) _) | (refine Below.via ?_ (by assumption) (by first | omega | (simp; done) | (simp; omega) | exact Below.size (by assumption) | exact Nat.le_trans (Below.size (by assumption)) (by simp)))))⟩
  case round =>
    obtain ⟨i, hi, rfl, rfl, hb⟩ := hrel
    by_cases hlt : i < L.length
    · obtain ⟨bl, off, v, rfl, hbl, hLv, hc0⟩ := (hLh.out.below hb).2.2.int hlt
      obtain ⟨v1, v2⟩ := hLm.out v (List.mem_of_getElem? hLv)
      obtain ⟨k, rfl⟩ : ∃ k : Nat, v = (k : Int) := ⟨v.toNat, by omega⟩
      obtain ⟨bl2, off2, n, rfl, hbl2, hWk, hc1⟩ := (hWh.out.below hb).2.2.int (i := k) (by omega)
      have hst := Lib.hid (sw_take (W := W) hLv)
      have hwn := Lib.hid (wtA_at hWk)
      have hb1 := hb0.out (L.take i)
      have hb2 : ((L.take i).length : Int) ≤ 1000 := by rw [List.length_take]; omega
      have hn := hwt.out (k : Int)
      rw [hwn.out] at hn
      have hlt' : (i : Int) < (L.length : Int) := by omega
      have hi0 : (0 : Int) ≤ (i : Int) := by omega
      replace hLv := Lib.hid hLv
      replace hWk := Lib.hid hWk
      go_wp2
      go_roundw
      case rel => exact ⟨i + 1, by omega, by go_num, (by rw [hst.out, hwn.out]; try rw [IntWalk.i64_in _ (by omega)]), (by repeat (first | exact Below.refl _ _ | assumption | refine Below.drew ?_ | refine below_drewN ?_ _ | refine Below.alloc' ?_ _ | (refine Below.setCell ?_ (by first | omega | (simp; done) | (simp; omega) | exact Below.size (by assumption) | exact Nat.le_trans (Below.size (by assumption)) (by simp)) _) | (refine Below.via' ?_ (by assumption)) | (refine Below.alloc ?_ (by first | omega | (simp; done) | (simp; omega) | exact Below.size (by assumption) | exact Nat.le_trans (Below.size (by assumption)) (by simp)) _) | (refine Below.via ?_ (by assumption) (by first | omega | (simp; done) | (simp; omega) | exact Below.size (by assumption) | exact Nat.le_trans (Below.size (by assumption)) (by simp)))))⟩
      case measure => simp [intOf]; omega
    · have hij : i = L.length := by omega
      subst hij
      go_wp2
      go_ret
      exact ⟨ret_int (by rw [List.take_length]), (by repeat (first | exact Below.refl _ _ | assumption | refine Below.drew ?_ | refine below_drewN ?_ _ | refine Below.alloc' ?_ _ | (refine Below.setCell ?_ (by first | omega | (simp; done) | (simp; omega) | exact Below.size (by assumption) | exact Nat.le_trans (Below.size (by assumption)) (by simp)) _) | (refine Below.via' ?_ (by assumption)) | (refine Below.alloc ?_ (by first | omega | (simp; done) | (simp; omega) | exact Below.size (by assumption) | exact Nat.le_trans (Below.size (by assumption)) (by simp)) _) | (refine Below.via ?_ (by assumption) (by first | omega | (simp; done) | (simp; omega) | exact Below.size (by assumption) | exact Nat.le_trans (Below.size (by assumption)) (by simp)))))⟩
set_option maxHeartbeats 2000000 in
theorem iChanged_any (x y z : Option Addr) (c1 c2 c3 : Nat) (W V X : List Int) (w : World) (hw : inR W 1 100 = true) (hl : V.length = X.length) (hl2 : V.length = W.length) (h6 : V.length ≤ 1000) (hWi : IIn w x W) (hV : IIn w y V) (hX : IIn w z X) :
    Calls Try.prog 151 #[.slice x W.length c1, .slice y V.length c2, .slice z X.length c3] w fun e w' => e = .returned (.int .i64 (swZ W (dvL V X))) ∧ Below w.heap.size w w' := by
  have hWh := Lib.hid hWi
  have hVh := Lib.hid hV
  have hXh := Lib.hid hX
  have hlh := Lib.hid hl
  have hlw := Lib.hid hl2
  have hb0 := Lib.hid (fun n : Nat => ch_bd (A := V) (B := X) (n := n) hw)
  have hwt := Lib.hid (wtA_bd hw)
  clear hWi hV hX hl hl2
  go_enter Try.func151, Try.ntmps151
  go_wp2
  go_loopw [7, 11] (fun q c wr => ∃ i : Nat, i ≤ V.length ∧ c = .int .i64 i ∧ q = .int .i64 (chZ W V X i) ∧ Below w.heap.size w wr) (fun _ c _ => V.length - (intOf c).toNat)
  case atStart => exact ⟨0, by omega, rfl, rfl, (by repeat (first | exact Below.refl _ _ | assumption | refine Below.drew ?_ | refine below_drewN ?_ _ | refine Below.alloc' ?_ _ | (refine Below.setCell ?_ (by first | omega | (simp; done) | (simp; omega) | exact Below.size (by assumption) | exact Nat.le_trans (Below.size (by assumption)) (by simp)) _) | (refine Below.via' ?_ (by assumption)) | (refine Below.alloc ?_ (by first | omega | (simp; done) | (simp; omega) | exact Below.size (by assumption) | exact Nat.le_trans (Below.size (by assumption)) (by simp)) _) | (refine Below.via ?_ (by assumption) (by first | omega | (simp; done) | (simp; omega) | exact Below.size (by assumption) | exact Nat.le_trans (Below.size (by assumption)) (by simp)))))⟩
  case round =>
    obtain ⟨i, hi, rfl, rfl, hb⟩ := hrel
    by_cases hlt : i < V.length
    · obtain ⟨bl, off, a, rfl, hbl, hVi, hc0⟩ := (hVh.out.below hb).2.2.int hlt
      obtain ⟨bl2, off2, d, rfl, hbl2, hXi, hc1⟩ := (hXh.out.below hb).2.2.int (i := i) (by have := hlh.out; omega)
      obtain ⟨bl3, off3, n, rfl, hbl3, hWi, hc2⟩ := (hWh.out.below hb).2.2.int (i := i) (by have := hlw.out; omega)
      have hwn := Lib.hid (wtA_at hWi)
      have hbb := hb0.out i
      have hn := hwt.out (i : Int)
      rw [hwn.out] at hn
      have hlt' : (i : Int) < (V.length : Int) := by omega
      have hlt2 : (i : Int) < (X.length : Int) := by have := hlh.out; omega
      have hlt3 : (i : Int) < (W.length : Int) := by have := hlw.out; omega
      have hi0 : (0 : Int) ≤ (i : Int) := by omega
      by_cases he : a = d
      · have hsel := Lib.hid (ch_no (W := W) (show dvB V X i = false by unfold dvB; rw [hVi, hXi, he]; simp))
        have heb : (a == d) = true := by rw [beq_iff_eq]; exact he
        replace he := Lib.hid he
        replace hVi := Lib.hid hVi
        replace hXi := Lib.hid hXi
        replace hWi := Lib.hid hWi
        go_wp2
        go_region
        all_goals
          go_wp2
          go_roundw
          case rel => exact ⟨i + 1, by omega, by go_num, by rw [hsel.out], (by repeat (first | exact Below.refl _ _ | assumption | refine Below.drew ?_ | refine below_drewN ?_ _ | refine Below.alloc' ?_ _ | (refine Below.setCell ?_ (by first | omega | (simp; done) | (simp; omega) | exact Below.size (by assumption) | exact Nat.le_trans (Below.size (by assumption)) (by simp)) _) | (refine Below.via' ?_ (by assumption)) | (refine Below.alloc ?_ (by first | omega | (simp; done) | (simp; omega) | exact Below.size (by assumption) | exact Nat.le_trans (Below.size (by assumption)) (by simp)) _) | (refine Below.via ?_ (by assumption) (by first | omega | (simp; done) | (simp; omega) | exact Below.size (by assumption) | exact Nat.le_trans (Below.size (by assumption)) (by simp)))))⟩
          case measure => simp [intOf]; omega
      · have hsel := Lib.hid (ch_yes (W := W) (show dvB V X i = true by unfold dvB; rw [hVi, hXi]; simp [he]))
        have heb : (a == d) = false := by rw [beq_eq_false_iff_ne]; exact he
        replace he := Lib.hid he
        replace hVi := Lib.hid hVi
        replace hXi := Lib.hid hXi
        replace hWi := Lib.hid hWi
        have heb2 : (a != d) = true := by rw [bne, heb]; rfl
        go_wp2
        go_region
        all_goals
          go_wp2
          first
            | (go_roundw
               case rel => exact ⟨i + 1, by omega, by go_num, (by rw [hsel.out, hwn.out]; try rw [IntWalk.i64_in _ (by omega)]), (by repeat (first | exact Below.refl _ _ | assumption | refine Below.drew ?_ | refine below_drewN ?_ _ | refine Below.alloc' ?_ _ | (refine Below.setCell ?_ (by first | omega | (simp; done) | (simp; omega) | exact Below.size (by assumption) | exact Nat.le_trans (Below.size (by assumption)) (by simp)) _) | (refine Below.via' ?_ (by assumption)) | (refine Below.alloc ?_ (by first | omega | (simp; done) | (simp; omega) | exact Below.size (by assumption) | exact Nat.le_trans (Below.size (by assumption)) (by simp)) _) | (refine Below.via ?_ (by assumption) (by first | omega | (simp; done) | (simp; omega) | exact Below.size (by assumption) | exact Nat.le_trans (Below.size (by assumption)) (by simp)))))⟩
               case measure => simp [intOf]; omega)
            | (go_region
               all_goals
                 go_wp2
                 go_roundw
                 case rel => exact ⟨i + 1, by omega, by go_num, (by rw [hsel.out, hwn.out]; try rw [IntWalk.i64_in _ (by omega)]), (by repeat (first | exact Below.refl _ _ | assumption | refine Below.drew ?_ | refine below_drewN ?_ _ | refine Below.alloc' ?_ _ | (refine Below.setCell ?_ (by first | omega | (simp; done) | (simp; omega) | exact Below.size (by assumption) | exact Nat.le_trans (Below.size (by assumption)) (by simp)) _) | (refine Below.via' ?_ (by assumption)) | (refine Below.alloc ?_ (by first | omega | (simp; done) | (simp; omega) | exact Below.size (by assumption) | exact Nat.le_trans (Below.size (by assumption)) (by simp)) _) | (refine Below.via ?_ (by assumption) (by first | omega | (simp; done) | (simp; omega) | exact Below.size (by assumption) | exact Nat.le_trans (Below.size (by assumption)) (by simp)))))⟩
                 case measure => simp [intOf]; omega)
    · have hij : i = V.length := by omega
      subst hij
      go_wp2
      go_ret
      exact ⟨ret_int rfl, (by repeat (first | exact Below.refl _ _ | assumption | refine Below.drew ?_ | refine below_drewN ?_ _ | refine Below.alloc' ?_ _ | (refine Below.setCell ?_ (by first | omega | (simp; done) | (simp; omega) | exact Below.size (by assumption) | exact Nat.le_trans (Below.size (by assumption)) (by simp)) _) | (refine Below.via' ?_ (by assumption)) | (refine Below.alloc ?_ (by first | omega | (simp; done) | (simp; omega) | exact Below.size (by assumption) | exact Nat.le_trans (Below.size (by assumption)) (by simp)) _) | (refine Below.via ?_ (by assumption) (by first | omega | (simp; done) | (simp; omega) | exact Below.size (by assumption) | exact Nat.le_trans (Below.size (by assumption)) (by simp)))))⟩

/-- A schema, weights and two lists of values for it. -/
def wvB (S : List (ByteArray × Int)) (W A B : List Int) : Bool := schB S && wgB S W && fitB S A && fitB S B
theorem wv_no1 {S : List (ByteArray × Int)} {W A B : List Int} (h : schB S = false) : wvB S W A B = false := by unfold wvB; rw [h]; rfl
theorem wv_no2 {S : List (ByteArray × Int)} {W A B : List Int} (h : wgB S W = false) : wvB S W A B = false := by unfold wvB; rw [h, Bool.and_false]; rfl
theorem wv_no3 {S : List (ByteArray × Int)} {W A B : List Int} (h : fitB S A = false) : wvB S W A B = false := by unfold wvB; rw [h, Bool.and_false]; rfl
theorem wv_no4 {S : List (ByteArray × Int)} {W A B : List Int} (h : fitB S B = false) : wvB S W A B = false := by unfold wvB; rw [h, Bool.and_false]
theorem wv_yes {S : List (ByteArray × Int)} {W A B : List Int} (h1 : schB S = true) (h2 : wgB S W = true) (h3 : fitB S A = true) (h4 : fitB S B = true) : wvB S W A B = true := by unfold wvB; rw [h1, h2, h3, h4]; rfl
set_option maxHeartbeats 2000000 in
theorem sCstA_x (x y z u : Option Addr) (c1 c2 c3 c4 : Nat) (S : List (ByteArray × Int)) (W A B : List Int) (w : World) (hS : SIn w x c1 S) (hW : IIn w y W) (hA : IIn w z A) (hB : IIn w u B) :
    Calls Try.prog 70 #[.slice x S.length c1, .slice y W.length c2, .slice z A.length c3, .slice u B.length c4] w fun e w' => e = .returned (.tuple #[.int .i64 (nIf (wvB S W A B) (swZ W (dvL A B))), .bool (wvB S W A B)]) ∧ Below w.heap.size w w' := by
  have hSh := Lib.hid hS
  have hWh := Lib.hid hW
  have hAh := Lib.hid hA
  have hBh := Lib.hid hB
  have hm := hS.1
  clear hS hW hA hB
  go_enter Try.func70, Try.ntmps70
  go_wp2_with fail
  refine (sGood_x _ _ _ _ (hSh.out.below (by exact (by repeat (first | exact Below.refl _ _ | assumption | refine Below.drew ?_ | refine below_drewN ?_ _ | refine Below.alloc' ?_ _ | (refine Below.setCell ?_ (by first | omega | (simp; done) | (simp; omega) | exact Below.size (by assumption) | exact Nat.le_trans (Below.size (by assumption)) (by simp)) _) | (refine Below.via' ?_ (by assumption)) | (refine Below.alloc ?_ (by first | omega | (simp; done) | (simp; omega) | exact Below.size (by assumption) | exact Nat.le_trans (Below.size (by assumption)) (by simp)) _) | (refine Below.via ?_ (by assumption) (by first | omega | (simp; done) | (simp; omega) | exact Below.size (by assumption) | exact Nat.le_trans (Below.size (by assumption)) (by simp)))))))).mono ?_
  rintro e w1 ⟨rfl, hb1⟩
  cases hs : schB S
  · have hv := Lib.hid (wv_no1 (W := W) (A := A) (B := B) hs)
    go_wp2
    go_ret2
    exact retN_no hv.out (by repeat (first | exact Below.refl _ _ | assumption | refine Below.drew ?_ | refine below_drewN ?_ _ | refine Below.alloc' ?_ _ | (refine Below.setCell ?_ (by first | omega | (simp; done) | (simp; omega) | exact Below.size (by assumption) | exact Nat.le_trans (Below.size (by assumption)) (by simp)) _) | (refine Below.via' ?_ (by assumption)) | (refine Below.alloc ?_ (by first | omega | (simp; done) | (simp; omega) | exact Below.size (by assumption) | exact Nat.le_trans (Below.size (by assumption)) (by simp)) _) | (refine Below.via ?_ (by assumption) (by first | omega | (simp; done) | (simp; omega) | exact Below.size (by assumption) | exact Nat.le_trans (Below.size (by assumption)) (by simp)))))
  have hsh := Lib.hid hs
  clear hs
  go_wp2_with fail
  refine (iWeights_any _ _ _ _ S W _ (hWh.out.below (by exact (by repeat (first | exact Below.refl _ _ | assumption | refine Below.drew ?_ | refine below_drewN ?_ _ | refine Below.alloc' ?_ _ | (refine Below.setCell ?_ (by first | omega | (simp; done) | (simp; omega) | exact Below.size (by assumption) | exact Nat.le_trans (Below.size (by assumption)) (by simp)) _) | (refine Below.via' ?_ (by assumption)) | (refine Below.alloc ?_ (by first | omega | (simp; done) | (simp; omega) | exact Below.size (by assumption) | exact Nat.le_trans (Below.size (by assumption)) (by simp)) _) | (refine Below.via ?_ (by assumption) (by first | omega | (simp; done) | (simp; omega) | exact Below.size (by assumption) | exact Nat.le_trans (Below.size (by assumption)) (by simp)))))))).mono ?_
  rintro e w2 ⟨rfl, hb2⟩
  cases hg : wgB S W
  · have hv := Lib.hid (wv_no2 (A := A) (B := B) hg)
    go_wp2
    go_ret2
    exact retN_no hv.out (by repeat (first | exact Below.refl _ _ | assumption | refine Below.drew ?_ | refine below_drewN ?_ _ | refine Below.alloc' ?_ _ | (refine Below.setCell ?_ (by first | omega | (simp; done) | (simp; omega) | exact Below.size (by assumption) | exact Nat.le_trans (Below.size (by assumption)) (by simp)) _) | (refine Below.via' ?_ (by assumption)) | (refine Below.alloc ?_ (by first | omega | (simp; done) | (simp; omega) | exact Below.size (by assumption) | exact Nat.le_trans (Below.size (by assumption)) (by simp)) _) | (refine Below.via ?_ (by assumption) (by first | omega | (simp; done) | (simp; omega) | exact Below.size (by assumption) | exact Nat.le_trans (Below.size (by assumption)) (by simp)))))
  have hgh := Lib.hid hg
  clear hg
  go_wp2_with fail
  refine (sFits_any _ _ _ _ S A _ hsh.out hm (hSh.out.rd.below (by exact (by repeat (first | exact Below.refl _ _ | assumption | refine Below.drew ?_ | refine below_drewN ?_ _ | refine Below.alloc' ?_ _ | (refine Below.setCell ?_ (by first | omega | (simp; done) | (simp; omega) | exact Below.size (by assumption) | exact Nat.le_trans (Below.size (by assumption)) (by simp)) _) | (refine Below.via' ?_ (by assumption)) | (refine Below.alloc ?_ (by first | omega | (simp; done) | (simp; omega) | exact Below.size (by assumption) | exact Nat.le_trans (Below.size (by assumption)) (by simp)) _) | (refine Below.via ?_ (by assumption) (by first | omega | (simp; done) | (simp; omega) | exact Below.size (by assumption) | exact Nat.le_trans (Below.size (by assumption)) (by simp))))))) (hAh.out.below (by exact (by repeat (first | exact Below.refl _ _ | assumption | refine Below.drew ?_ | refine below_drewN ?_ _ | refine Below.alloc' ?_ _ | (refine Below.setCell ?_ (by first | omega | (simp; done) | (simp; omega) | exact Below.size (by assumption) | exact Nat.le_trans (Below.size (by assumption)) (by simp)) _) | (refine Below.via' ?_ (by assumption)) | (refine Below.alloc ?_ (by first | omega | (simp; done) | (simp; omega) | exact Below.size (by assumption) | exact Nat.le_trans (Below.size (by assumption)) (by simp)) _) | (refine Below.via ?_ (by assumption) (by first | omega | (simp; done) | (simp; omega) | exact Below.size (by assumption) | exact Nat.le_trans (Below.size (by assumption)) (by simp)))))))).mono ?_
  rintro e w3 ⟨rfl, hb3⟩
  cases hf : fitB S A
  · have hv := Lib.hid (wv_no3 (W := W) (B := B) hf)
    go_wp2
    go_ret2
    exact retN_no hv.out (by repeat (first | exact Below.refl _ _ | assumption | refine Below.drew ?_ | refine below_drewN ?_ _ | refine Below.alloc' ?_ _ | (refine Below.setCell ?_ (by first | omega | (simp; done) | (simp; omega) | exact Below.size (by assumption) | exact Nat.le_trans (Below.size (by assumption)) (by simp)) _) | (refine Below.via' ?_ (by assumption)) | (refine Below.alloc ?_ (by first | omega | (simp; done) | (simp; omega) | exact Below.size (by assumption) | exact Nat.le_trans (Below.size (by assumption)) (by simp)) _) | (refine Below.via ?_ (by assumption) (by first | omega | (simp; done) | (simp; omega) | exact Below.size (by assumption) | exact Nat.le_trans (Below.size (by assumption)) (by simp)))))
  have hfh := Lib.hid hf
  clear hf
  go_wp2_with fail
  refine (sFits_any _ _ _ _ S B _ hsh.out hm (hSh.out.rd.below (by exact (by repeat (first | exact Below.refl _ _ | assumption | refine Below.drew ?_ | refine below_drewN ?_ _ | refine Below.alloc' ?_ _ | (refine Below.setCell ?_ (by first | omega | (simp; done) | (simp; omega) | exact Below.size (by assumption) | exact Nat.le_trans (Below.size (by assumption)) (by simp)) _) | (refine Below.via' ?_ (by assumption)) | (refine Below.alloc ?_ (by first | omega | (simp; done) | (simp; omega) | exact Below.size (by assumption) | exact Nat.le_trans (Below.size (by assumption)) (by simp)) _) | (refine Below.via ?_ (by assumption) (by first | omega | (simp; done) | (simp; omega) | exact Below.size (by assumption) | exact Nat.le_trans (Below.size (by assumption)) (by simp))))))) (hBh.out.below (by exact (by repeat (first | exact Below.refl _ _ | assumption | refine Below.drew ?_ | refine below_drewN ?_ _ | refine Below.alloc' ?_ _ | (refine Below.setCell ?_ (by first | omega | (simp; done) | (simp; omega) | exact Below.size (by assumption) | exact Nat.le_trans (Below.size (by assumption)) (by simp)) _) | (refine Below.via' ?_ (by assumption)) | (refine Below.alloc ?_ (by first | omega | (simp; done) | (simp; omega) | exact Below.size (by assumption) | exact Nat.le_trans (Below.size (by assumption)) (by simp)) _) | (refine Below.via ?_ (by assumption) (by first | omega | (simp; done) | (simp; omega) | exact Below.size (by assumption) | exact Nat.le_trans (Below.size (by assumption)) (by simp)))))))).mono ?_
  rintro e w4 ⟨rfl, hb4⟩
  cases hf : fitB S B
  · have hv := Lib.hid (wv_no4 (W := W) (A := A) hf)
    go_wp2
    go_ret2
    exact retN_no hv.out (by repeat (first | exact Below.refl _ _ | assumption | refine Below.drew ?_ | refine below_drewN ?_ _ | refine Below.alloc' ?_ _ | (refine Below.setCell ?_ (by first | omega | (simp; done) | (simp; omega) | exact Below.size (by assumption) | exact Nat.le_trans (Below.size (by assumption)) (by simp)) _) | (refine Below.via' ?_ (by assumption)) | (refine Below.alloc ?_ (by first | omega | (simp; done) | (simp; omega) | exact Below.size (by assumption) | exact Nat.le_trans (Below.size (by assumption)) (by simp)) _) | (refine Below.via ?_ (by assumption) (by first | omega | (simp; done) | (simp; omega) | exact Below.size (by assumption) | exact Nat.le_trans (Below.size (by assumption)) (by simp)))))
  have hfh2 := Lib.hid hf
  clear hf
  have hv := Lib.hid (wv_yes hsh.out hgh.out hfh.out hfh2.out)
  have hl6 := (schB_len hsh.out).2
  have hla := Lib.hid (fit_len hfh.out)
  have hlb := Lib.hid (fit_len hfh2.out)
  have hlw := Lib.hid (wg_get hgh.out).1
  have hwr := Lib.hid (wg_get hgh.out).2
  go_wp2_with fail
  refine (iChanged_any _ _ _ _ _ _ W A B _ hwr.out (by have := hla.out; have := hlb.out; omega) (by have := hla.out; have := hlw.out; omega) (by have := hla.out; omega) (hWh.out.below (by exact (by repeat (first | exact Below.refl _ _ | assumption | refine Below.drew ?_ | refine below_drewN ?_ _ | refine Below.alloc' ?_ _ | (refine Below.setCell ?_ (by first | omega | (simp; done) | (simp; omega) | exact Below.size (by assumption) | exact Nat.le_trans (Below.size (by assumption)) (by simp)) _) | (refine Below.via' ?_ (by assumption)) | (refine Below.alloc ?_ (by first | omega | (simp; done) | (simp; omega) | exact Below.size (by assumption) | exact Nat.le_trans (Below.size (by assumption)) (by simp)) _) | (refine Below.via ?_ (by assumption) (by first | omega | (simp; done) | (simp; omega) | exact Below.size (by assumption) | exact Nat.le_trans (Below.size (by assumption)) (by simp))))))) (hAh.out.below (by exact (by repeat (first | exact Below.refl _ _ | assumption | refine Below.drew ?_ | refine below_drewN ?_ _ | refine Below.alloc' ?_ _ | (refine Below.setCell ?_ (by first | omega | (simp; done) | (simp; omega) | exact Below.size (by assumption) | exact Nat.le_trans (Below.size (by assumption)) (by simp)) _) | (refine Below.via' ?_ (by assumption)) | (refine Below.alloc ?_ (by first | omega | (simp; done) | (simp; omega) | exact Below.size (by assumption) | exact Nat.le_trans (Below.size (by assumption)) (by simp)) _) | (refine Below.via ?_ (by assumption) (by first | omega | (simp; done) | (simp; omega) | exact Below.size (by assumption) | exact Nat.le_trans (Below.size (by assumption)) (by simp))))))) (hBh.out.below (by exact (by repeat (first | exact Below.refl _ _ | assumption | refine Below.drew ?_ | refine below_drewN ?_ _ | refine Below.alloc' ?_ _ | (refine Below.setCell ?_ (by first | omega | (simp; done) | (simp; omega) | exact Below.size (by assumption) | exact Nat.le_trans (Below.size (by assumption)) (by simp)) _) | (refine Below.via' ?_ (by assumption)) | (refine Below.alloc ?_ (by first | omega | (simp; done) | (simp; omega) | exact Below.size (by assumption) | exact Nat.le_trans (Below.size (by assumption)) (by simp)) _) | (refine Below.via ?_ (by assumption) (by first | omega | (simp; done) | (simp; omega) | exact Below.size (by assumption) | exact Nat.le_trans (Below.size (by assumption)) (by simp)))))))).mono ?_
  rintro e w5 ⟨rfl, hb5⟩
  go_wp2
  go_ret2
  exact retN_yes hv.out rfl (by repeat (first | exact Below.refl _ _ | assumption | refine Below.drew ?_ | refine below_drewN ?_ _ | refine Below.alloc' ?_ _ | (refine Below.setCell ?_ (by first | omega | (simp; done) | (simp; omega) | exact Below.size (by assumption) | exact Nat.le_trans (Below.size (by assumption)) (by simp)) _) | (refine Below.via' ?_ (by assumption)) | (refine Below.alloc ?_ (by first | omega | (simp; done) | (simp; omega) | exact Below.size (by assumption) | exact Nat.le_trans (Below.size (by assumption)) (by simp)) _) | (refine Below.via ?_ (by assumption) (by first | omega | (simp; done) | (simp; omega) | exact Below.size (by assumption) | exact Nat.le_trans (Below.size (by assumption)) (by simp)))))
theorem dv_in {A B : List Int} : ∀ v ∈ dvL A B, 0 ≤ v ∧ v < (A.length : Int) := by
  intro v hv
  unfold dvL at hv
  obtain ⟨i, rfl, hi, _⟩ := pkUp_mem hv
  omega
set_option maxHeartbeats 2000000 in
theorem iCstA_x (x y z u : Option Addr) (c1 c2 c3 c4 : Nat) (S : List (ByteArray × Int)) (W A B : List Int) (w : World) (hS : SIn w x c1 S) (hW : IIn w y W) (hA : IIn w z A) (hB : IIn w u B) :
    Calls Try.prog 71 #[.slice x S.length c1, .slice y W.length c2, .slice z A.length c3, .slice u B.length c4] w fun e w' => e = .returned (.tuple #[.int .i64 (nIf (wvB S W A B) (swZ W (dvL A B))), .bool (wvB S W A B)]) ∧ Below w.heap.size w w' := by
  have hSh := Lib.hid hS
  have hWh := Lib.hid hW
  have hAh := Lib.hid hA
  have hBh := Lib.hid hB
  have hm := hS.1
  clear hS hW hA hB
  go_enter Try.func71, Try.ntmps71
  go_wp2_with fail
  refine (isSch_x _ _ _ _ (hSh.out.below (by exact (by repeat (first | exact Below.refl _ _ | assumption | refine Below.drew ?_ | refine below_drewN ?_ _ | refine Below.alloc' ?_ _ | (refine Below.setCell ?_ (by first | omega | (simp; done) | (simp; omega) | exact Below.size (by assumption) | exact Nat.le_trans (Below.size (by assumption)) (by simp)) _) | (refine Below.via' ?_ (by assumption)) | (refine Below.alloc ?_ (by first | omega | (simp; done) | (simp; omega) | exact Below.size (by assumption) | exact Nat.le_trans (Below.size (by assumption)) (by simp)) _) | (refine Below.via ?_ (by assumption) (by first | omega | (simp; done) | (simp; omega) | exact Below.size (by assumption) | exact Nat.le_trans (Below.size (by assumption)) (by simp)))))))).mono ?_
  rintro e w1 ⟨rfl, hb1⟩
  cases hs : schB S
  · have hv := Lib.hid (wv_no1 (W := W) (A := A) (B := B) hs)
    go_wp2
    go_ret2
    exact retN_no hv.out (by repeat (first | exact Below.refl _ _ | assumption | refine Below.drew ?_ | refine below_drewN ?_ _ | refine Below.alloc' ?_ _ | (refine Below.setCell ?_ (by first | omega | (simp; done) | (simp; omega) | exact Below.size (by assumption) | exact Nat.le_trans (Below.size (by assumption)) (by simp)) _) | (refine Below.via' ?_ (by assumption)) | (refine Below.alloc ?_ (by first | omega | (simp; done) | (simp; omega) | exact Below.size (by assumption) | exact Nat.le_trans (Below.size (by assumption)) (by simp)) _) | (refine Below.via ?_ (by assumption) (by first | omega | (simp; done) | (simp; omega) | exact Below.size (by assumption) | exact Nat.le_trans (Below.size (by assumption)) (by simp)))))
  have hsh := Lib.hid hs
  clear hs
  go_wp2_with fail
  refine (areWeights_any _ _ _ _ S W _ hm (hWh.out.below (by exact (by repeat (first | exact Below.refl _ _ | assumption | refine Below.drew ?_ | refine below_drewN ?_ _ | refine Below.alloc' ?_ _ | (refine Below.setCell ?_ (by first | omega | (simp; done) | (simp; omega) | exact Below.size (by assumption) | exact Nat.le_trans (Below.size (by assumption)) (by simp)) _) | (refine Below.via' ?_ (by assumption)) | (refine Below.alloc ?_ (by first | omega | (simp; done) | (simp; omega) | exact Below.size (by assumption) | exact Nat.le_trans (Below.size (by assumption)) (by simp)) _) | (refine Below.via ?_ (by assumption) (by first | omega | (simp; done) | (simp; omega) | exact Below.size (by assumption) | exact Nat.le_trans (Below.size (by assumption)) (by simp)))))))).mono ?_
  rintro e w2 ⟨rfl, hb2⟩
  cases hg : wgB S W
  · have hv := Lib.hid (wv_no2 (A := A) (B := B) hg)
    go_wp2
    go_ret2
    exact retN_no hv.out (by repeat (first | exact Below.refl _ _ | assumption | refine Below.drew ?_ | refine below_drewN ?_ _ | refine Below.alloc' ?_ _ | (refine Below.setCell ?_ (by first | omega | (simp; done) | (simp; omega) | exact Below.size (by assumption) | exact Nat.le_trans (Below.size (by assumption)) (by simp)) _) | (refine Below.via' ?_ (by assumption)) | (refine Below.alloc ?_ (by first | omega | (simp; done) | (simp; omega) | exact Below.size (by assumption) | exact Nat.le_trans (Below.size (by assumption)) (by simp)) _) | (refine Below.via ?_ (by assumption) (by first | omega | (simp; done) | (simp; omega) | exact Below.size (by assumption) | exact Nat.le_trans (Below.size (by assumption)) (by simp)))))
  have hgh := Lib.hid hg
  clear hg
  go_wp2_with fail
  refine (areValues_any _ _ _ _ S A _ hsh.out hm (hSh.out.rd.below (by exact (by repeat (first | exact Below.refl _ _ | assumption | refine Below.drew ?_ | refine below_drewN ?_ _ | refine Below.alloc' ?_ _ | (refine Below.setCell ?_ (by first | omega | (simp; done) | (simp; omega) | exact Below.size (by assumption) | exact Nat.le_trans (Below.size (by assumption)) (by simp)) _) | (refine Below.via' ?_ (by assumption)) | (refine Below.alloc ?_ (by first | omega | (simp; done) | (simp; omega) | exact Below.size (by assumption) | exact Nat.le_trans (Below.size (by assumption)) (by simp)) _) | (refine Below.via ?_ (by assumption) (by first | omega | (simp; done) | (simp; omega) | exact Below.size (by assumption) | exact Nat.le_trans (Below.size (by assumption)) (by simp))))))) (hAh.out.below (by exact (by repeat (first | exact Below.refl _ _ | assumption | refine Below.drew ?_ | refine below_drewN ?_ _ | refine Below.alloc' ?_ _ | (refine Below.setCell ?_ (by first | omega | (simp; done) | (simp; omega) | exact Below.size (by assumption) | exact Nat.le_trans (Below.size (by assumption)) (by simp)) _) | (refine Below.via' ?_ (by assumption)) | (refine Below.alloc ?_ (by first | omega | (simp; done) | (simp; omega) | exact Below.size (by assumption) | exact Nat.le_trans (Below.size (by assumption)) (by simp)) _) | (refine Below.via ?_ (by assumption) (by first | omega | (simp; done) | (simp; omega) | exact Below.size (by assumption) | exact Nat.le_trans (Below.size (by assumption)) (by simp)))))))).mono ?_
  rintro e w3 ⟨rfl, hb3⟩
  cases hf : fitB S A
  · have hv := Lib.hid (wv_no3 (W := W) (B := B) hf)
    go_wp2
    go_ret2
    exact retN_no hv.out (by repeat (first | exact Below.refl _ _ | assumption | refine Below.drew ?_ | refine below_drewN ?_ _ | refine Below.alloc' ?_ _ | (refine Below.setCell ?_ (by first | omega | (simp; done) | (simp; omega) | exact Below.size (by assumption) | exact Nat.le_trans (Below.size (by assumption)) (by simp)) _) | (refine Below.via' ?_ (by assumption)) | (refine Below.alloc ?_ (by first | omega | (simp; done) | (simp; omega) | exact Below.size (by assumption) | exact Nat.le_trans (Below.size (by assumption)) (by simp)) _) | (refine Below.via ?_ (by assumption) (by first | omega | (simp; done) | (simp; omega) | exact Below.size (by assumption) | exact Nat.le_trans (Below.size (by assumption)) (by simp)))))
  have hfh := Lib.hid hf
  clear hf
  go_wp2_with fail
  refine (areValues_any _ _ _ _ S B _ hsh.out hm (hSh.out.rd.below (by exact (by repeat (first | exact Below.refl _ _ | assumption | refine Below.drew ?_ | refine below_drewN ?_ _ | refine Below.alloc' ?_ _ | (refine Below.setCell ?_ (by first | omega | (simp; done) | (simp; omega) | exact Below.size (by assumption) | exact Nat.le_trans (Below.size (by assumption)) (by simp)) _) | (refine Below.via' ?_ (by assumption)) | (refine Below.alloc ?_ (by first | omega | (simp; done) | (simp; omega) | exact Below.size (by assumption) | exact Nat.le_trans (Below.size (by assumption)) (by simp)) _) | (refine Below.via ?_ (by assumption) (by first | omega | (simp; done) | (simp; omega) | exact Below.size (by assumption) | exact Nat.le_trans (Below.size (by assumption)) (by simp))))))) (hBh.out.below (by exact (by repeat (first | exact Below.refl _ _ | assumption | refine Below.drew ?_ | refine below_drewN ?_ _ | refine Below.alloc' ?_ _ | (refine Below.setCell ?_ (by first | omega | (simp; done) | (simp; omega) | exact Below.size (by assumption) | exact Nat.le_trans (Below.size (by assumption)) (by simp)) _) | (refine Below.via' ?_ (by assumption)) | (refine Below.alloc ?_ (by first | omega | (simp; done) | (simp; omega) | exact Below.size (by assumption) | exact Nat.le_trans (Below.size (by assumption)) (by simp)) _) | (refine Below.via ?_ (by assumption) (by first | omega | (simp; done) | (simp; omega) | exact Below.size (by assumption) | exact Nat.le_trans (Below.size (by assumption)) (by simp)))))))).mono ?_
  rintro e w4 ⟨rfl, hb4⟩
  cases hf : fitB S B
  · have hv := Lib.hid (wv_no4 (W := W) (A := A) hf)
    go_wp2
    go_ret2
    exact retN_no hv.out (by repeat (first | exact Below.refl _ _ | assumption | refine Below.drew ?_ | refine below_drewN ?_ _ | refine Below.alloc' ?_ _ | (refine Below.setCell ?_ (by first | omega | (simp; done) | (simp; omega) | exact Below.size (by assumption) | exact Nat.le_trans (Below.size (by assumption)) (by simp)) _) | (refine Below.via' ?_ (by assumption)) | (refine Below.alloc ?_ (by first | omega | (simp; done) | (simp; omega) | exact Below.size (by assumption) | exact Nat.le_trans (Below.size (by assumption)) (by simp)) _) | (refine Below.via ?_ (by assumption) (by first | omega | (simp; done) | (simp; omega) | exact Below.size (by assumption) | exact Nat.le_trans (Below.size (by assumption)) (by simp)))))
  have hfh2 := Lib.hid hf
  clear hf
  have hv := Lib.hid (wv_yes hsh.out hgh.out hfh.out hfh2.out)
  have hl6 := (schB_len hsh.out).2
  have hla := Lib.hid (fit_len hfh.out)
  have hlb := Lib.hid (fit_len hfh2.out)
  have hlw := Lib.hid (wg_get hgh.out).1
  have hwr := Lib.hid (wg_get hgh.out).2
  go_wp2_with fail
  refine (differing_any _ _ _ _ A B _ (by have := hla.out; have := hlb.out; omega) (by have := hla.out; omega) (hAh.out.below (by exact (by repeat (first | exact Below.refl _ _ | assumption | refine Below.drew ?_ | refine below_drewN ?_ _ | refine Below.alloc' ?_ _ | (refine Below.setCell ?_ (by first | omega | (simp; done) | (simp; omega) | exact Below.size (by assumption) | exact Nat.le_trans (Below.size (by assumption)) (by simp)) _) | (refine Below.via' ?_ (by assumption)) | (refine Below.alloc ?_ (by first | omega | (simp; done) | (simp; omega) | exact Below.size (by assumption) | exact Nat.le_trans (Below.size (by assumption)) (by simp)) _) | (refine Below.via ?_ (by assumption) (by first | omega | (simp; done) | (simp; omega) | exact Below.size (by assumption) | exact Nat.le_trans (Below.size (by assumption)) (by simp))))))) (hBh.out.below (by exact (by repeat (first | exact Below.refl _ _ | assumption | refine Below.drew ?_ | refine below_drewN ?_ _ | refine Below.alloc' ?_ _ | (refine Below.setCell ?_ (by first | omega | (simp; done) | (simp; omega) | exact Below.size (by assumption) | exact Nat.le_trans (Below.size (by assumption)) (by simp)) _) | (refine Below.via' ?_ (by assumption)) | (refine Below.alloc ?_ (by first | omega | (simp; done) | (simp; omega) | exact Below.size (by assumption) | exact Nat.le_trans (Below.size (by assumption)) (by simp)) _) | (refine Below.via ?_ (by assumption) (by first | omega | (simp; done) | (simp; omega) | exact Below.size (by assumption) | exact Nat.le_trans (Below.size (by assumption)) (by simp)))))))).mono ?_
  rintro e w5 ⟨u5, rfl, ho5, hb5⟩
  obtain ⟨x5, n5, rfl, -, -⟩ := (OwR.of ho5).form
  have hdl := dvL_len A B
  have hin5 := Lib.hid (show IIn w5 x5 (dvL A B) from pk_iinW (by have := hla.out; omega) (Rd.of_own ho5))
  clear ho5
  go_wp2_with fail
  refine (sumWeights_any _ _ _ _ W (dvL A B) _ hwr.out (by have := hla.out; omega) (fun v hv => by have := dv_in v hv; have := hla.out; have := hlw.out; omega) (hWh.out.below (by exact (by repeat (first | exact Below.refl _ _ | assumption | refine Below.drew ?_ | refine below_drewN ?_ _ | refine Below.alloc' ?_ _ | (refine Below.setCell ?_ (by first | omega | (simp; done) | (simp; omega) | exact Below.size (by assumption) | exact Nat.le_trans (Below.size (by assumption)) (by simp)) _) | (refine Below.via' ?_ (by assumption)) | (refine Below.alloc ?_ (by first | omega | (simp; done) | (simp; omega) | exact Below.size (by assumption) | exact Nat.le_trans (Below.size (by assumption)) (by simp)) _) | (refine Below.via ?_ (by assumption) (by first | omega | (simp; done) | (simp; omega) | exact Below.size (by assumption) | exact Nat.le_trans (Below.size (by assumption)) (by simp))))))) hin5.out).mono ?_
  rintro e w6 ⟨rfl, hb6⟩
  go_wp2
  go_ret2
  exact retN_yes hv.out rfl (by repeat (first | exact Below.refl _ _ | assumption | refine Below.drew ?_ | refine below_drewN ?_ _ | refine Below.alloc' ?_ _ | (refine Below.setCell ?_ (by first | omega | (simp; done) | (simp; omega) | exact Below.size (by assumption) | exact Nat.le_trans (Below.size (by assumption)) (by simp)) _) | (refine Below.via' ?_ (by assumption)) | (refine Below.alloc ?_ (by first | omega | (simp; done) | (simp; omega) | exact Below.size (by assumption) | exact Nat.le_trans (Below.size (by assumption)) (by simp)) _) | (refine Below.via ?_ (by assumption) (by first | omega | (simp; done) | (simp; omega) | exact Below.size (by assumption) | exact Nat.le_trans (Below.size (by assumption)) (by simp)))))
end Go.Proofs.Ytnmpigedhpdenab
