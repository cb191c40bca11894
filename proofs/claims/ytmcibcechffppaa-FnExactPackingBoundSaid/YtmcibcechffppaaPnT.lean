import Derived.Test.YtmcibcechffppaaPnC
import Derived.Test.YtmcibcechffppaaEdP
import Derived.Test.YtmcibcechffppaaPnS
import Derived.Test.YtmcibcechffppaaPnR
import Derived.Test.YtmcibcechffppaaEdX
namespace Go.Proofs.Ytmcibcechffppaa
open Go.RowKit
set_option maxRecDepth 100000

/-- A small schema, edits and data for it. -/
def sdB (S : List (ByteArray × Int)) (M : List (List Int)) (R : List RV) : Bool := smB S M && dokB S R
theorem sd_no1 {S : List (ByteArray × Int)} {M : List (List Int)} {R : List RV} (h : smB S M = false) : sdB S M R = false := by unfold sdB; rw [h]; rfl
theorem sd_no2 {S : List (ByteArray × Int)} {M : List (List Int)} {R : List RV} (h : dokB S R = false) : sdB S M R = false := by unfold sdB; rw [h, Bool.and_false]
theorem sd_yes {S : List (ByteArray × Int)} {M : List (List Int)} {R : List RV} (h : smB S M = true) (k : dokB S R = true) : sdB S M R = true := by unfold sdB; rw [h, k]; rfl
theorem sd_get {S : List (ByteArray × Int)} {M : List (List Int)} {R : List RV} (h : sdB S M R = true) : smB S M = true ∧ dokB S R = true := by
  unfold sdB at h
  rwa [Bool.and_eq_true] at h
/-- Does the record with this index fail an edit? The records that do. -/
def frB (M D : List (List Int)) (i : Nat) : Bool := match D[i]? with | some V => faB M V | none => false
theorem fr_at {M D : List (List Int)} {V : List Int} {i : Nat} (h : D[i]? = some V) : frB M D i = faB M V := by unfold frB; rw [h]
def frUp (M D : List (List Int)) (n : Nat) : List Int := pkUp (frB M D) n
def frL (M D : List (List Int)) : List Int := frUp M D D.length
theorem frUp_len (M D : List (List Int)) (n : Nat) : (frUp M D n).length ≤ n := pkUp_len _ _

theorem frL_len (M D : List (List Int)) : (frL M D).length ≤ D.length := pkUp_len _ _
theorem sd_len {S : List (ByteArray × Int)} {M : List (List Int)} {R : List RV} (h : sdB S M R = true) : R.length ≤ 40 := dokB_len (sd_get h).2
end Go.Proofs.Ytmcibcechffppaa

namespace Go.Proofs.Ytmcibcechffppaa
open Go.RowKit
set_option maxRecDepth 100000

/-- One weight for each variable. -/
def wgB (S : List (ByteArray × Int)) (W : List Int) : Bool := decide (W.length = S.length) && inR W 1 100
theorem wg_no1 {S : List (ByteArray × Int)} {W : List Int} (h : W.length ≠ S.length) : wgB S W = false := by unfold wgB; rw [decide_eq_false h]; rfl
theorem wg_no2 {S : List (ByteArray × Int)} {W : List Int} (h : inR W 1 100 = false) : wgB S W = false := by unfold wgB; rw [h, Bool.and_false]
theorem wg_yes {S : List (ByteArray × Int)} {W : List Int} (h : W.length = S.length) (k : inR W 1 100 = true) : wgB S W = true := by unfold wgB; rw [decide_eq_true h, k]; rfl
theorem wg_get {S : List (ByteArray × Int)} {W : List Int} (h : wgB S W = true) : W.length = S.length ∧ inR W 1 100 = true := by
  unfold wgB at h
  rw [Bool.and_eq_true] at h
  exact ⟨of_decide_eq_true h.1, h.2⟩
theorem inR_at {G : List Int} {lo hi v : Int} {i : Nat} (h : inR G lo hi = true) (hi' : G[i]? = some v) : lo ≤ v ∧ v ≤ hi := by
  unfold inR at h
  rw [List.all_eq_true] at h
  exact (inB_iff v lo hi).1 (h v (List.mem_of_getElem? hi')) |> fun k => k
/-- The weight of a variable; the weights of a set. -/
def wtA (W : List Int) (v : Int) : Int := (W[v.toNat]?).getD 0
def swZ (W L : List Int) : Int := (L.map (wtA W)).sum
theorem wtA_at {W : List Int} {i : Nat} {n : Int} (h : W[i]? = some n) : wtA W (i : Int) = n := by unfold wtA; rw [Int.toNat_natCast, h]; rfl
theorem wtA_bd {W : List Int} (h : inR W 1 100 = true) (v : Int) : 0 ≤ wtA W v ∧ wtA W v ≤ 100 := by
  unfold wtA
  cases e : W[v.toNat]? with
  | none => exact ⟨by simp, by simp⟩
  | some n => have := inR_at h e; exact ⟨by simp; omega, by simp; omega⟩
theorem sw_snoc (W L : List Int) (v : Int) : swZ W (L ++ [v]) = swZ W L + wtA W v := by unfold swZ; rw [List.map_append, List.sum_append]; simp
theorem sw_bd {W : List Int} (h : inR W 1 100 = true) : ∀ L : List Int, 0 ≤ swZ W L ∧ swZ W L ≤ 100 * (L.length : Int)
  | [] => ⟨by simp [swZ], by simp [swZ]⟩
  | v :: L => by
    have a := sw_bd h L
    have b := wtA_bd h v
    have e : swZ W (v :: L) = wtA W v + swZ W L := by unfold swZ; simp
    rw [e, List.length_cons]
    exact ⟨by omega, by omega⟩
theorem sw_take {W L : List Int} {i : Nat} {v : Int} (h : L[i]? = some v) : swZ W (L.take (i + 1)) = swZ W (L.take i) + wtA W v := by
  rw [List.take_add_one, h, Option.toList_some, sw_snoc]
/-- The cost of a change, variable by variable. -/
def chZ (W A B : List Int) (n : Nat) : Int := swZ W (pkUp (dvB A B) n)
theorem ch_yes {W A B : List Int} {i : Nat} (h : dvB A B i = true) : chZ W A B (i + 1) = chZ W A B i + wtA W (i : Int) := by unfold chZ; rw [pkUp_yes h, sw_snoc]
theorem ch_no {W A B : List Int} {i : Nat} (h : dvB A B i = false) : chZ W A B (i + 1) = chZ W A B i := by unfold chZ; rw [pkUp_no h]
theorem ch_bd {W A B : List Int} {n : Nat} (h : inR W 1 100 = true) : 0 ≤ chZ W A B n ∧ chZ W A B n ≤ 100 * (n : Int) := by
  have a := sw_bd h (pkUp (dvB A B) n)
  have b := pkUp_len (dvB A B) n
  unfold chZ
  exact ⟨a.1, by omega⟩

set_option maxHeartbeats 1000000 in
theorem areWeights_any (x y : Option Addr) (c1 c2 : Nat) (S : List (ByteArray × Int)) (W : List Int) (w : World) (hm : S.length ≤ 1048576) (hW : IIn w y W) :
    Calls Try.prog 110 #[.slice x S.length c1, .slice y W.length c2] w fun e w' => e = .returned (.bool (wgB S W)) ∧ Below w.heap.size w w' := by
  have hWh := Lib.hid hW
  have hWl := hW.1
  clear hW
  by_cases hlen : W.length = S.length
  · have hne : ((W.length : Int) != (S.length : Int)) = false := by rw [bne_eq_false_iff_eq]; omega
    go_enter Try.func110, Try.ntmps110
    go_wp2
    go_loopw [14] (fun c wr => ∃ i : Nat, i ≤ W.length ∧ c = .int .i64 i ∧ Hid (∀ j, j < i → ∃ v, W[j]? = some v ∧ inB v 1 100 = true) ∧ Below w.heap.size w wr) (fun c _ => W.length - (intOf c).toNat)
    case atStart => exact ⟨0, by omega, rfl, (fun j hj => absurd hj (by omega)), (by repeat (first | exact Below.refl _ _ | assumption | refine Below.drew ?_ | refine below_drewN ?_ _ | refine Below.alloc' ?_ _ | (refine Below.setCell ?_ (by first | omega | (simp; done) | (simp; omega) | exact Below.size (by assumption) | exact Nat.le_trans (Below.size (by assumption)) (by simp)) _) | (refine Below.via' ?_ (by assumption)) | (refine Below.alloc ?_ (by first | omega | (simp; done) | (simp; omega) | exact Below.size (by assumption) | exact Nat.le_trans (Below.size (by assumption)) (by simp)) _) | (refine Below.via ?_ (by assumption) (by first | omega | (simp; done) | (simp; omega) | exact Below.size (by assumption) | exact Nat.le_trans (Below.size (by assumption)) (by simp)))))⟩
    case round =>
      obtain ⟨i, hi, rfl, hall, hb⟩ := hrel
      by_cases hlt : i < W.length
      · obtain ⟨bl, off, v, rfl, hbl, hWi, hc0⟩ := (hWh.out.below hb).2.2.int hlt
        have hlt' : (i : Int) < (W.length : Int) := by omega
        have hi0 : (0 : Int) ≤ (i : Int) := by omega
        by_cases h1 : v < 1
        · have hv := Lib.hid (wg_no2 (S := S) (inR_bad hWi ((inB_no v 1 100).2 (by omega))))
          clear hWi
          go_wp2
          go_ret
          exact ⟨ret_bool hv.out.symm, (by repeat (first | exact Below.refl _ _ | assumption | refine Below.drew ?_ | refine below_drewN ?_ _ | refine Below.alloc' ?_ _ | (refine Below.setCell ?_ (by first | omega | (simp; done) | (simp; omega) | exact Below.size (by assumption) | exact Nat.le_trans (Below.size (by assumption)) (by simp)) _) | (refine Below.via' ?_ (by assumption)) | (refine Below.alloc ?_ (by first | omega | (simp; done) | (simp; omega) | exact Below.size (by assumption) | exact Nat.le_trans (Below.size (by assumption)) (by simp)) _) | (refine Below.via ?_ (by assumption) (by first | omega | (simp; done) | (simp; omega) | exact Below.size (by assumption) | exact Nat.le_trans (Below.size (by assumption)) (by simp)))))⟩
        by_cases h2 : 100 < v
        · have hv := Lib.hid (wg_no2 (S := S) (inR_bad hWi ((inB_no v 1 100).2 (by omega))))
          clear hWi
          go_wp2
          go_ret
          exact ⟨ret_bool hv.out.symm, (by repeat (first | exact Below.refl _ _ | assumption | refine Below.drew ?_ | refine below_drewN ?_ _ | refine Below.alloc' ?_ _ | (refine Below.setCell ?_ (by first | omega | (simp; done) | (simp; omega) | exact Below.size (by assumption) | exact Nat.le_trans (Below.size (by assumption)) (by simp)) _) | (refine Below.via' ?_ (by assumption)) | (refine Below.alloc ?_ (by first | omega | (simp; done) | (simp; omega) | exact Below.size (by assumption) | exact Nat.le_trans (Below.size (by assumption)) (by simp)) _) | (refine Below.via ?_ (by assumption) (by first | omega | (simp; done) | (simp; omega) | exact Below.size (by assumption) | exact Nat.le_trans (Below.size (by assumption)) (by simp)))))⟩
        have hgood := (inB_iff v 1 100).2 ⟨by omega, by omega⟩
        replace hWi := Lib.hid hWi
        go_wp2
        go_roundw
        case rel =>
          refine ⟨i + 1, by omega, by go_num, fun j hj => ?_, (by repeat (first | exact Below.refl _ _ | assumption | refine Below.drew ?_ | refine below_drewN ?_ _ | refine Below.alloc' ?_ _ | (refine Below.setCell ?_ (by first | omega | (simp; done) | (simp; omega) | exact Below.size (by assumption) | exact Nat.le_trans (Below.size (by assumption)) (by simp)) _) | (refine Below.via' ?_ (by assumption)) | (refine Below.alloc ?_ (by first | omega | (simp; done) | (simp; omega) | exact Below.size (by assumption) | exact Nat.le_trans (Below.size (by assumption)) (by simp)) _) | (refine Below.via ?_ (by assumption) (by first | omega | (simp; done) | (simp; omega) | exact Below.size (by assumption) | exact Nat.le_trans (Below.size (by assumption)) (by simp)))))⟩
          rcases Nat.lt_or_ge j i with hj2 | hj2
          · exact hall.out j hj2
          · obtain rfl : j = i := by omega
            exact ⟨v, hWi.out, hgood⟩
        case measure => simp [intOf]; omega
      · have hij : i = W.length := by omega
        subst hij
        have hv := Lib.hid (wg_yes hlen (inR_all hall.out))
        clear hall
        go_wp2
        go_ret
        exact ⟨ret_bool hv.out.symm, (by repeat (first | exact Below.refl _ _ | assumption | refine Below.drew ?_ | refine below_drewN ?_ _ | refine Below.alloc' ?_ _ | (refine Below.setCell ?_ (by first | omega | (simp; done) | (simp; omega) | exact Below.size (by assumption) | exact Nat.le_trans (Below.size (by assumption)) (by simp)) _) | (refine Below.via' ?_ (by assumption)) | (refine Below.alloc ?_ (by first | omega | (simp; done) | (simp; omega) | exact Below.size (by assumption) | exact Nat.le_trans (Below.size (by assumption)) (by simp)) _) | (refine Below.via ?_ (by assumption) (by first | omega | (simp; done) | (simp; omega) | exact Below.size (by assumption) | exact Nat.le_trans (Below.size (by assumption)) (by simp)))))⟩
  · have hne : ((W.length : Int) != (S.length : Int)) = true := by rw [bne_iff_ne]; omega
    have hv := Lib.hid (wg_no1 hlen)
    go_enter Try.func110, Try.ntmps110
    go_wp2
    go_ret
    exact ⟨ret_bool hv.out.symm, (by repeat (first | exact Below.refl _ _ | assumption | refine Below.drew ?_ | refine below_drewN ?_ _ | refine Below.alloc' ?_ _ | (refine Below.setCell ?_ (by first | omega | (simp; done) | (simp; omega) | exact Below.size (by assumption) | exact Nat.le_trans (Below.size (by assumption)) (by simp)) _) | (refine Below.via' ?_ (by assumption)) | (refine Below.alloc ?_ (by first | omega | (simp; done) | (simp; omega) | exact Below.size (by assumption) | exact Nat.le_trans (Below.size (by assumption)) (by simp)) _) | (refine Below.via ?_ (by assumption) (by first | omega | (simp; done) | (simp; omega) | exact Below.size (by assumption) | exact Nat.le_trans (Below.size (by assumption)) (by simp)))))⟩
set_option maxHeartbeats 1000000 in
theorem iWeights_any (x y : Option Addr) (c1 c2 : Nat) (S : List (ByteArray × Int)) (W : List Int) (w : World) (hW : IIn w y W) :
    Calls Try.prog 108 #[.slice x S.length c1, .slice y W.length c2] w fun e w' => e = .returned (.bool (wgB S W)) ∧ Below w.heap.size w w' := by
  have hWh := Lib.hid hW
  have hWl := hW.1
  clear hW
  by_cases hlen : W.length = S.length
  · have hne : ((W.length : Int) == (S.length : Int)) = true := by rw [beq_iff_eq]; omega
    have hv : Hid (inR W 1 100 = wgB S W) := by
      unfold Hid
      cases h : inR W 1 100
      · rw [wg_no2 h]
      · rw [wg_yes hlen h]
    replace hlen := Lib.hid hlen
    go_enter Try.func108, Try.ntmps108
    go_wp2_with (go_at_call 129; refine (l1All_any _ _ W _ _ _ hWl (hWh.out.2.2.below (by exact (by repeat (first | exact Below.refl _ _ | assumption | refine Below.drew ?_ | refine below_drewN ?_ _ | refine Below.alloc' ?_ _ | (refine Below.setCell ?_ (by first | omega | (simp; done) | (simp; omega) | exact Below.size (by assumption) | exact Nat.le_trans (Below.size (by assumption)) (by simp)) _) | (refine Below.via' ?_ (by assumption)) | (refine Below.alloc ?_ (by first | omega | (simp; done) | (simp; omega) | exact Below.size (by assumption) | exact Nat.le_trans (Below.size (by assumption)) (by simp)) _) | (refine Below.via ?_ (by assumption) (by first | omega | (simp; done) | (simp; omega) | exact Below.size (by assumption) | exact Nat.le_trans (Below.size (by assumption)) (by simp)))))))).mono ?_; rintro e w1 ⟨rfl, rfl⟩)
    go_ret
    exact ⟨ret_bool hv.out, (by repeat (first | exact Below.refl _ _ | assumption | refine Below.drew ?_ | refine below_drewN ?_ _ | refine Below.alloc' ?_ _ | (refine Below.setCell ?_ (by first | omega | (simp; done) | (simp; omega) | exact Below.size (by assumption) | exact Nat.le_trans (Below.size (by assumption)) (by simp)) _) | (refine Below.via' ?_ (by assumption)) | (refine Below.alloc ?_ (by first | omega | (simp; done) | (simp; omega) | exact Below.size (by assumption) | exact Nat.le_trans (Below.size (by assumption)) (by simp)) _) | (refine Below.via ?_ (by assumption) (by first | omega | (simp; done) | (simp; omega) | exact Below.size (by assumption) | exact Nat.le_trans (Below.size (by assumption)) (by simp)))))⟩
  · have hne : ((W.length : Int) == (S.length : Int)) = false := by rw [beq_eq_false_iff_ne]; omega
    have hv := Lib.hid (wg_no1 hlen)
    go_enter Try.func108, Try.ntmps108
    go_wp2
    go_ret
    exact ⟨ret_bool hv.out.symm, (by repeat (first | exact Below.refl _ _ | assumption | refine Below.drew ?_ | refine below_drewN ?_ _ | refine Below.alloc' ?_ _ | (refine Below.setCell ?_ (by first | omega | (simp; done) | (simp; omega) | exact Below.size (by assumption) | exact Nat.le_trans (Below.size (by assumption)) (by simp)) _) | (refine Below.via' ?_ (by assumption)) | (refine Below.alloc ?_ (by first | omega | (simp; done) | (simp; omega) | exact Below.size (by assumption) | exact Nat.le_trans (Below.size (by assumption)) (by simp)) _) | (refine Below.via ?_ (by assumption) (by first | omega | (simp; done) | (simp; omega) | exact Below.size (by assumption) | exact Nat.le_trans (Below.size (by assumption)) (by simp)))))⟩
/-- A schema, weights and two lists of values for it. -/
def wvB (S : List (ByteArray × Int)) (W A B : List Int) : Bool := schB S && wgB S W && fitB S A && fitB S B
theorem wv_no1 {S : List (ByteArray × Int)} {W A B : List Int} (h : schB S = false) : wvB S W A B = false := by unfold wvB; rw [h]; rfl
theorem wv_no2 {S : List (ByteArray × Int)} {W A B : List Int} (h : wgB S W = false) : wvB S W A B = false := by unfold wvB; rw [h, Bool.and_false]; rfl
theorem wv_no3 {S : List (ByteArray × Int)} {W A B : List Int} (h : fitB S A = false) : wvB S W A B = false := by unfold wvB; rw [h, Bool.and_false]; rfl
theorem wv_no4 {S : List (ByteArray × Int)} {W A B : List Int} (h : fitB S B = false) : wvB S W A B = false := by unfold wvB; rw [h, Bool.and_false]
theorem wv_yes {S : List (ByteArray × Int)} {W A B : List Int} (h1 : schB S = true) (h2 : wgB S W = true) (h3 : fitB S A = true) (h4 : fitB S B = true) : wvB S W A B = true := by unfold wvB; rw [h1, h2, h3, h4]; rfl
theorem dv_in {A B : List Int} : ∀ v ∈ dvL A B, 0 ≤ v ∧ v < (A.length : Int) := by
  intro v hv
  unfold dvL at hv
  obtain ⟨i, rfl, hi, _⟩ := pkUp_mem hv
  omega
end Go.Proofs.Ytmcibcechffppaa

namespace Go.Proofs.Ytmcibcechffppaa
open Go.RowKit
set_option maxRecDepth 100000

/-- A small schema, edits, weights and values for it. -/
def cmB (S : List (ByteArray × Int)) (M : List (List Int)) (W V : List Int) : Bool := smB S M && wgB S W && fitB S V
theorem cm_no1 {S : List (ByteArray × Int)} {M : List (List Int)} {W V : List Int} (h : smB S M = false) : cmB S M W V = false := by unfold cmB; rw [h]; rfl
theorem cm_no2 {S : List (ByteArray × Int)} {M : List (List Int)} {W V : List Int} (h : wgB S W = false) : cmB S M W V = false := by unfold cmB; rw [h, Bool.and_false]; rfl
theorem cm_no3 {S : List (ByteArray × Int)} {M : List (List Int)} {W V : List Int} (h : fitB S V = false) : cmB S M W V = false := by unfold cmB; rw [h, Bool.and_false]
theorem cm_yes {S : List (ByteArray × Int)} {M : List (List Int)} {W V : List Int} (h1 : smB S M = true) (h2 : wgB S W = true) (h3 : fitB S V = true) : cmB S M W V = true := by unfold cmB; rw [h1, h2, h3]; rfl
theorem cm_get {S : List (ByteArray × Int)} {M : List (List Int)} {W V : List Int} (h : cmB S M W V = true) : smB S M = true ∧ wgB S W = true ∧ fitB S V = true := by
  unfold cmB at h
  rw [Bool.and_eq_true, Bool.and_eq_true] at h
  exact ⟨h.1.1, h.1.2, h.2⟩
set_option maxHeartbeats 1000000 in
theorem iInput_any (x y z u : Option Addr) (c1 c2 c3 c4 : Nat) (S : List (ByteArray × Int)) (Q : List PR) (W V : List Int) (w : World) (hS : SIn w x c1 S) (hQ : EIn w y Q) (hW : IIn w z W) (hV : IIn w u V) :
    Calls Try.prog 74 #[.slice x S.length c1, .slice y Q.length c2, .slice z W.length c3, .slice u V.length c4] w fun e w' => e = .returned (.bool (cmB S (eM Q) W V)) ∧ Below w.heap.size w w' := by
  have hSh := Lib.hid hS
  have hQh := Lib.hid hQ
  have hWh := Lib.hid hW
  have hVh := Lib.hid hV
  have hm := hS.1
  clear hS hQ hW hV
  go_enter Try.func74, Try.ntmps74
  go_wp2_with fail
  refine (eSmall_any _ _ _ _ S Q _ (hSh.out.below (by exact (by repeat (first | exact Below.refl _ _ | assumption | refine Below.drew ?_ | refine below_drewN ?_ _ | refine Below.alloc' ?_ _ | (refine Below.setCell ?_ (by first | omega | (simp; done) | (simp; omega) | exact Below.size (by assumption) | exact Nat.le_trans (Below.size (by assumption)) (by simp)) _) | (refine Below.via' ?_ (by assumption)) | (refine Below.alloc ?_ (by first | omega | (simp; done) | (simp; omega) | exact Below.size (by assumption) | exact Nat.le_trans (Below.size (by assumption)) (by simp)) _) | (refine Below.via ?_ (by assumption) (by first | omega | (simp; done) | (simp; omega) | exact Below.size (by assumption) | exact Nat.le_trans (Below.size (by assumption)) (by simp))))))) (hQh.out.below (by exact (by repeat (first | exact Below.refl _ _ | assumption | refine Below.drew ?_ | refine below_drewN ?_ _ | refine Below.alloc' ?_ _ | (refine Below.setCell ?_ (by first | omega | (simp; done) | (simp; omega) | exact Below.size (by assumption) | exact Nat.le_trans (Below.size (by assumption)) (by simp)) _) | (refine Below.via' ?_ (by assumption)) | (refine Below.alloc ?_ (by first | omega | (simp; done) | (simp; omega) | exact Below.size (by assumption) | exact Nat.le_trans (Below.size (by assumption)) (by simp)) _) | (refine Below.via ?_ (by assumption) (by first | omega | (simp; done) | (simp; omega) | exact Below.size (by assumption) | exact Nat.le_trans (Below.size (by assumption)) (by simp)))))))).mono ?_
  rintro e w1 ⟨rfl, hb1⟩
  cases he : smB S (eM Q)
  · have hv := Lib.hid (cm_no1 (W := W) (V := V) he)
    go_wp2
    go_ret
    exact ⟨ret_bool hv.out.symm, (by repeat (first | exact Below.refl _ _ | assumption | refine Below.drew ?_ | refine below_drewN ?_ _ | refine Below.alloc' ?_ _ | (refine Below.setCell ?_ (by first | omega | (simp; done) | (simp; omega) | exact Below.size (by assumption) | exact Nat.le_trans (Below.size (by assumption)) (by simp)) _) | (refine Below.via' ?_ (by assumption)) | (refine Below.alloc ?_ (by first | omega | (simp; done) | (simp; omega) | exact Below.size (by assumption) | exact Nat.le_trans (Below.size (by assumption)) (by simp)) _) | (refine Below.via ?_ (by assumption) (by first | omega | (simp; done) | (simp; omega) | exact Below.size (by assumption) | exact Nat.le_trans (Below.size (by assumption)) (by simp)))))⟩
  have hsmh := Lib.hid he
  have hsh := Lib.hid (el_get (sm_get he).1).1
  clear he
  go_wp2_with fail
  refine (iWeights_any _ _ _ _ S W _ (hWh.out.below (by exact (by repeat (first | exact Below.refl _ _ | assumption | refine Below.drew ?_ | refine below_drewN ?_ _ | refine Below.alloc' ?_ _ | (refine Below.setCell ?_ (by first | omega | (simp; done) | (simp; omega) | exact Below.size (by assumption) | exact Nat.le_trans (Below.size (by assumption)) (by simp)) _) | (refine Below.via' ?_ (by assumption)) | (refine Below.alloc ?_ (by first | omega | (simp; done) | (simp; omega) | exact Below.size (by assumption) | exact Nat.le_trans (Below.size (by assumption)) (by simp)) _) | (refine Below.via ?_ (by assumption) (by first | omega | (simp; done) | (simp; omega) | exact Below.size (by assumption) | exact Nat.le_trans (Below.size (by assumption)) (by simp)))))))).mono ?_
  rintro e w2 ⟨rfl, hb2⟩
  cases hg : wgB S W
  · have hv := Lib.hid (cm_no2 (M := eM Q) (V := V) hg)
    go_wp2
    go_ret
    exact ⟨ret_bool hv.out.symm, (by repeat (first | exact Below.refl _ _ | assumption | refine Below.drew ?_ | refine below_drewN ?_ _ | refine Below.alloc' ?_ _ | (refine Below.setCell ?_ (by first | omega | (simp; done) | (simp; omega) | exact Below.size (by assumption) | exact Nat.le_trans (Below.size (by assumption)) (by simp)) _) | (refine Below.via' ?_ (by assumption)) | (refine Below.alloc ?_ (by first | omega | (simp; done) | (simp; omega) | exact Below.size (by assumption) | exact Nat.le_trans (Below.size (by assumption)) (by simp)) _) | (refine Below.via ?_ (by assumption) (by first | omega | (simp; done) | (simp; omega) | exact Below.size (by assumption) | exact Nat.le_trans (Below.size (by assumption)) (by simp)))))⟩
  have hgh := Lib.hid hg
  clear hg
  go_wp2_with fail
  refine (sFits_any _ _ _ _ S V _ hsh.out hm (hSh.out.rd.below (by exact (by repeat (first | exact Below.refl _ _ | assumption | refine Below.drew ?_ | refine below_drewN ?_ _ | refine Below.alloc' ?_ _ | (refine Below.setCell ?_ (by first | omega | (simp; done) | (simp; omega) | exact Below.size (by assumption) | exact Nat.le_trans (Below.size (by assumption)) (by simp)) _) | (refine Below.via' ?_ (by assumption)) | (refine Below.alloc ?_ (by first | omega | (simp; done) | (simp; omega) | exact Below.size (by assumption) | exact Nat.le_trans (Below.size (by assumption)) (by simp)) _) | (refine Below.via ?_ (by assumption) (by first | omega | (simp; done) | (simp; omega) | exact Below.size (by assumption) | exact Nat.le_trans (Below.size (by assumption)) (by simp))))))) (hVh.out.below (by exact (by repeat (first | exact Below.refl _ _ | assumption | refine Below.drew ?_ | refine below_drewN ?_ _ | refine Below.alloc' ?_ _ | (refine Below.setCell ?_ (by first | omega | (simp; done) | (simp; omega) | exact Below.size (by assumption) | exact Nat.le_trans (Below.size (by assumption)) (by simp)) _) | (refine Below.via' ?_ (by assumption)) | (refine Below.alloc ?_ (by first | omega | (simp; done) | (simp; omega) | exact Below.size (by assumption) | exact Nat.le_trans (Below.size (by assumption)) (by simp)) _) | (refine Below.via ?_ (by assumption) (by first | omega | (simp; done) | (simp; omega) | exact Below.size (by assumption) | exact Nat.le_trans (Below.size (by assumption)) (by simp)))))))).mono ?_
  rintro e w3 ⟨rfl, hb3⟩
  have hv : Hid (cmB S (eM Q) W V = fitB S V) := by unfold Hid cmB; rw [hsmh.out, hgh.out]; rfl
  go_wp2
  go_ret
  exact ⟨ret_bool hv.out.symm, (by repeat (first | exact Below.refl _ _ | assumption | refine Below.drew ?_ | refine below_drewN ?_ _ | refine Below.alloc' ?_ _ | (refine Below.setCell ?_ (by first | omega | (simp; done) | (simp; omega) | exact Below.size (by assumption) | exact Nat.le_trans (Below.size (by assumption)) (by simp)) _) | (refine Below.via' ?_ (by assumption)) | (refine Below.alloc ?_ (by first | omega | (simp; done) | (simp; omega) | exact Below.size (by assumption) | exact Nat.le_trans (Below.size (by assumption)) (by simp)) _) | (refine Below.via ?_ (by assumption) (by first | omega | (simp; done) | (simp; omega) | exact Below.size (by assumption) | exact Nat.le_trans (Below.size (by assumption)) (by simp)))))⟩
set_option maxHeartbeats 1000000 in
theorem canBeMended_any (x y z u : Option Addr) (c1 c2 c3 c4 : Nat) (S : List (ByteArray × Int)) (Q : List PR) (W V : List Int) (w : World) (hS : SIn w x c1 S) (hQ : EIn w y Q) (hW : IIn w z W) (hV : IIn w u V) :
    Calls Try.prog 77 #[.slice x S.length c1, .slice y Q.length c2, .slice z W.length c3, .slice u V.length c4] w fun e w' => e = .returned (.bool (cmB S (eM Q) W V)) ∧ Below w.heap.size w w' := by
  have hSh := Lib.hid hS
  have hQh := Lib.hid hQ
  have hWh := Lib.hid hW
  have hVh := Lib.hid hV
  have hm := hS.1
  clear hS hQ hW hV
  go_enter Try.func77, Try.ntmps77
  go_wp2_with fail
  refine (isSmall_any _ _ _ _ (hSh.out.below (by exact (by repeat (first | exact Below.refl _ _ | assumption | refine Below.drew ?_ | refine below_drewN ?_ _ | refine Below.alloc' ?_ _ | (refine Below.setCell ?_ (by first | omega | (simp; done) | (simp; omega) | exact Below.size (by assumption) | exact Nat.le_trans (Below.size (by assumption)) (by simp)) _) | (refine Below.via' ?_ (by assumption)) | (refine Below.alloc ?_ (by first | omega | (simp; done) | (simp; omega) | exact Below.size (by assumption) | exact Nat.le_trans (Below.size (by assumption)) (by simp)) _) | (refine Below.via ?_ (by assumption) (by first | omega | (simp; done) | (simp; omega) | exact Below.size (by assumption) | exact Nat.le_trans (Below.size (by assumption)) (by simp)))))))).mono ?_
  rintro e w0 ⟨rfl, hb0⟩
  cases hs : smS S
  · have hv := Lib.hid (cm_no1 (W := W) (V := V) (sm_no3 (M := eM Q) hs))
    go_wp2
    go_ret
    exact ⟨ret_bool hv.out.symm, (by repeat (first | exact Below.refl _ _ | assumption | refine Below.drew ?_ | refine below_drewN ?_ _ | refine Below.alloc' ?_ _ | (refine Below.setCell ?_ (by first | omega | (simp; done) | (simp; omega) | exact Below.size (by assumption) | exact Nat.le_trans (Below.size (by assumption)) (by simp)) _) | (refine Below.via' ?_ (by assumption)) | (refine Below.alloc ?_ (by first | omega | (simp; done) | (simp; omega) | exact Below.size (by assumption) | exact Nat.le_trans (Below.size (by assumption)) (by simp)) _) | (refine Below.via ?_ (by assumption) (by first | omega | (simp; done) | (simp; omega) | exact Below.size (by assumption) | exact Nat.le_trans (Below.size (by assumption)) (by simp)))))⟩
  have hsh := Lib.hid (smS_get hs).1
  have hcn := Lib.hid (smS_get hs).2
  clear hs
  go_wp2_with fail
  refine (areEditsFor_any _ _ _ _ S Q _ hsh.out hm (hSh.out.rd.below (by exact (by repeat (first | exact Below.refl _ _ | assumption | refine Below.drew ?_ | refine below_drewN ?_ _ | refine Below.alloc' ?_ _ | (refine Below.setCell ?_ (by first | omega | (simp; done) | (simp; omega) | exact Below.size (by assumption) | exact Nat.le_trans (Below.size (by assumption)) (by simp)) _) | (refine Below.via' ?_ (by assumption)) | (refine Below.alloc ?_ (by first | omega | (simp; done) | (simp; omega) | exact Below.size (by assumption) | exact Nat.le_trans (Below.size (by assumption)) (by simp)) _) | (refine Below.via ?_ (by assumption) (by first | omega | (simp; done) | (simp; omega) | exact Below.size (by assumption) | exact Nat.le_trans (Below.size (by assumption)) (by simp))))))) (hQh.out.below (by exact (by repeat (first | exact Below.refl _ _ | assumption | refine Below.drew ?_ | refine below_drewN ?_ _ | refine Below.alloc' ?_ _ | (refine Below.setCell ?_ (by first | omega | (simp; done) | (simp; omega) | exact Below.size (by assumption) | exact Nat.le_trans (Below.size (by assumption)) (by simp)) _) | (refine Below.via' ?_ (by assumption)) | (refine Below.alloc ?_ (by first | omega | (simp; done) | (simp; omega) | exact Below.size (by assumption) | exact Nat.le_trans (Below.size (by assumption)) (by simp)) _) | (refine Below.via ?_ (by assumption) (by first | omega | (simp; done) | (simp; omega) | exact Below.size (by assumption) | exact Nat.le_trans (Below.size (by assumption)) (by simp)))))))).mono ?_
  rintro e w1 ⟨rfl, hb1⟩
  cases he : elB S (eM Q)
  · have hv := Lib.hid (cm_no1 (W := W) (V := V) (sm_no1 he))
    go_wp2
    go_ret
    exact ⟨ret_bool hv.out.symm, (by repeat (first | exact Below.refl _ _ | assumption | refine Below.drew ?_ | refine below_drewN ?_ _ | refine Below.alloc' ?_ _ | (refine Below.setCell ?_ (by first | omega | (simp; done) | (simp; omega) | exact Below.size (by assumption) | exact Nat.le_trans (Below.size (by assumption)) (by simp)) _) | (refine Below.via' ?_ (by assumption)) | (refine Below.alloc ?_ (by first | omega | (simp; done) | (simp; omega) | exact Below.size (by assumption) | exact Nat.le_trans (Below.size (by assumption)) (by simp)) _) | (refine Below.via ?_ (by assumption) (by first | omega | (simp; done) | (simp; omega) | exact Below.size (by assumption) | exact Nat.le_trans (Below.size (by assumption)) (by simp)))))⟩
  have hsmh := Lib.hid (sm_yes he hcn.out)
  clear he
  go_wp2_with fail
  refine (areWeights_any _ _ _ _ S W _ hm (hWh.out.below (by exact (by repeat (first | exact Below.refl _ _ | assumption | refine Below.drew ?_ | refine below_drewN ?_ _ | refine Below.alloc' ?_ _ | (refine Below.setCell ?_ (by first | omega | (simp; done) | (simp; omega) | exact Below.size (by assumption) | exact Nat.le_trans (Below.size (by assumption)) (by simp)) _) | (refine Below.via' ?_ (by assumption)) | (refine Below.alloc ?_ (by first | omega | (simp; done) | (simp; omega) | exact Below.size (by assumption) | exact Nat.le_trans (Below.size (by assumption)) (by simp)) _) | (refine Below.via ?_ (by assumption) (by first | omega | (simp; done) | (simp; omega) | exact Below.size (by assumption) | exact Nat.le_trans (Below.size (by assumption)) (by simp)))))))).mono ?_
  rintro e w2 ⟨rfl, hb2⟩
  cases hg : wgB S W
  · have hv := Lib.hid (cm_no2 (M := eM Q) (V := V) hg)
    go_wp2
    go_ret
    exact ⟨ret_bool hv.out.symm, (by repeat (first | exact Below.refl _ _ | assumption | refine Below.drew ?_ | refine below_drewN ?_ _ | refine Below.alloc' ?_ _ | (refine Below.setCell ?_ (by first | omega | (simp; done) | (simp; omega) | exact Below.size (by assumption) | exact Nat.le_trans (Below.size (by assumption)) (by simp)) _) | (refine Below.via' ?_ (by assumption)) | (refine Below.alloc ?_ (by first | omega | (simp; done) | (simp; omega) | exact Below.size (by assumption) | exact Nat.le_trans (Below.size (by assumption)) (by simp)) _) | (refine Below.via ?_ (by assumption) (by first | omega | (simp; done) | (simp; omega) | exact Below.size (by assumption) | exact Nat.le_trans (Below.size (by assumption)) (by simp)))))⟩
  have hgh := Lib.hid hg
  clear hg
  go_wp2_with fail
  refine (areValues_any _ _ _ _ S V _ hsh.out hm (hSh.out.rd.below (by exact (by repeat (first | exact Below.refl _ _ | assumption | refine Below.drew ?_ | refine below_drewN ?_ _ | refine Below.alloc' ?_ _ | (refine Below.setCell ?_ (by first | omega | (simp; done) | (simp; omega) | exact Below.size (by assumption) | exact Nat.le_trans (Below.size (by assumption)) (by simp)) _) | (refine Below.via' ?_ (by assumption)) | (refine Below.alloc ?_ (by first | omega | (simp; done) | (simp; omega) | exact Below.size (by assumption) | exact Nat.le_trans (Below.size (by assumption)) (by simp)) _) | (refine Below.via ?_ (by assumption) (by first | omega | (simp; done) | (simp; omega) | exact Below.size (by assumption) | exact Nat.le_trans (Below.size (by assumption)) (by simp))))))) (hVh.out.below (by exact (by repeat (first | exact Below.refl _ _ | assumption | refine Below.drew ?_ | refine below_drewN ?_ _ | refine Below.alloc' ?_ _ | (refine Below.setCell ?_ (by first | omega | (simp; done) | (simp; omega) | exact Below.size (by assumption) | exact Nat.le_trans (Below.size (by assumption)) (by simp)) _) | (refine Below.via' ?_ (by assumption)) | (refine Below.alloc ?_ (by first | omega | (simp; done) | (simp; omega) | exact Below.size (by assumption) | exact Nat.le_trans (Below.size (by assumption)) (by simp)) _) | (refine Below.via ?_ (by assumption) (by first | omega | (simp; done) | (simp; omega) | exact Below.size (by assumption) | exact Nat.le_trans (Below.size (by assumption)) (by simp)))))))).mono ?_
  rintro e w3 ⟨rfl, hb3⟩
  have hv : Hid (cmB S (eM Q) W V = fitB S V) := by unfold Hid cmB; rw [hsmh.out, hgh.out]; rfl
  go_wp2
  go_ret
  exact ⟨ret_bool hv.out.symm, (by repeat (first | exact Below.refl _ _ | assumption | refine Below.drew ?_ | refine below_drewN ?_ _ | refine Below.alloc' ?_ _ | (refine Below.setCell ?_ (by first | omega | (simp; done) | (simp; omega) | exact Below.size (by assumption) | exact Nat.le_trans (Below.size (by assumption)) (by simp)) _) | (refine Below.via' ?_ (by assumption)) | (refine Below.alloc ?_ (by first | omega | (simp; done) | (simp; omega) | exact Below.size (by assumption) | exact Nat.le_trans (Below.size (by assumption)) (by simp)) _) | (refine Below.via ?_ (by assumption) (by first | omega | (simp; done) | (simp; omega) | exact Below.size (by assumption) | exact Nat.le_trans (Below.size (by assumption)) (by simp)))))⟩

theorem retN_at {n m : Int} {b d : Bool} {w w' : World} (hd : d = b) (hn : n = nIf b m) (h : Below w.heap.size w w') : Ending.returned (.tuple #[.int .i64 n, .bool d]) = .returned (.tuple #[.int .i64 (nIf b m), .bool b]) ∧ Below w.heap.size w w' := ⟨by rw [hd, hn], h⟩
/-- The best donor among the first records. -/
def ndS (M : List (List Int)) (W V : List Int) (o : Option (Nat × Int)) (i : Nat) (X : List Int) : Option (Nat × Int) :=
  if faB M X = true then o else match o with
    | none => some (i, swZ W (dvL V X))
    | some (j, b) => if swZ W (dvL V X) < b then some (i, swZ W (dvL V X)) else some (j, b)
def ndUp (M : List (List Int)) (W V : List Int) (D : List (List Int)) : Nat → Option (Nat × Int)
  | 0 => none
  | i + 1 => match D[i]? with
    | none => ndUp M W V D i
    | some X => ndS M W V (ndUp M W V D i) i X
theorem nd_step {M : List (List Int)} {W V : List Int} {D : List (List Int)} {i : Nat} {X : List Int} (h : D[i]? = some X) : ndUp M W V D (i + 1) = ndS M W V (ndUp M W V D i) i X := by
  show (match D[i]? with | none => ndUp M W V D i | some X => ndS M W V (ndUp M W V D i) i X) = _
  rw [h]
theorem ndS_fails {M : List (List Int)} {W V X : List Int} {o : Option (Nat × Int)} {i : Nat} (h : faB M X = true) : ndS M W V o i X = o := if_pos h
theorem ndS_first {M : List (List Int)} {W V X : List Int} {i : Nat} (h : faB M X = false) : ndS M W V none i X = some (i, swZ W (dvL V X)) := if_neg (by rw [h]; exact Bool.false_ne_true)
theorem ndS_less {M : List (List Int)} {W V X : List Int} {i j : Nat} {b : Int} (h : faB M X = false) (k : swZ W (dvL V X) < b) : ndS M W V (some (j, b)) i X = some (i, swZ W (dvL V X)) := by
  unfold ndS
  rw [if_neg (by rw [h]; exact Bool.false_ne_true)]
  exact if_pos k
theorem ndS_keep {M : List (List Int)} {W V X : List Int} {i j : Nat} {b : Int} (h : faB M X = false) (k : ¬ swZ W (dvL V X) < b) : ndS M W V (some (j, b)) i X = some (j, b) := by
  unfold ndS
  rw [if_neg (by rw [h]; exact Bool.false_ne_true)]
  exact if_neg k
theorem dvB_symm (A B : List Int) (i : Nat) : dvB A B i = dvB B A i := by
  unfold dvB
  congr 1
  exact decide_eq_decide.2 ⟨Eq.symm, Eq.symm⟩
theorem dvL_symm {A B : List Int} (h : A.length = B.length) : dvL A B = dvL B A := by
  unfold dvL
  rw [h]
  congr 1
  funext i
  exact dvB_symm A B i
/-- What the best donor's place, cost and presence look like. -/
def ndI (o : Option (Nat × Int)) : Int := match o with | some (j, _) => (j : Int) | none => 0
def ndJ (o : Option (Nat × Int)) : Int := match o with | some (j, _) => (j : Int) | none => -1
def ndC (o : Option (Nat × Int)) : Int := match o with | some (_, b) => b | none => 0
theorem nd_lt (M : List (List Int)) (W V : List Int) (D : List (List Int)) : ∀ n : Nat, ∀ j b, ndUp M W V D n = some (j, b) → j < n
  | 0, j, b, h => by cases h
  | n + 1, j, b, h => by
    have ih := nd_lt M W V D n
    have e : ndUp M W V D (n + 1) = match D[n]? with | none => ndUp M W V D n | some X => ndS M W V (ndUp M W V D n) n X := rfl
    rw [e] at h
    cases hD : D[n]? with
    | none => rw [hD] at h; have := ih j b h; omega
    | some X =>
      rw [hD] at h
      change ndS M W V (ndUp M W V D n) n X = some (j, b) at h
      cases hf : faB M X
      · cases ho : ndUp M W V D n with
        | none => rw [ho, ndS_first hf] at h; cases h; omega
        | some q =>
          obtain ⟨j0, b0⟩ := q
          rw [ho] at h
          by_cases hk : swZ W (dvL V X) < b0
          · rw [ndS_less hf hk] at h; cases h; omega
          · rw [ndS_keep hf hk] at h; cases h; have := ih j b ho; omega
      · rw [ndS_fails hf] at h; have := ih j b h; omega
/-- The arguments, and the answer. -/
def ndG (S : List (ByteArray × Int)) (M : List (List Int)) (W : List Int) (R : List RV) (V : List Int) : Bool := cmB S M W V && dokB S R
def ndO (M : List (List Int)) (W : List Int) (R : List RV) (V : List Int) : Option (Nat × Int) := ndUp M W V (dV R) (dV R).length
def neB (S : List (ByteArray × Int)) (M : List (List Int)) (W : List Int) (R : List RV) (V : List Int) : Bool := ndG S M W R V && (ndO M W R V).isSome
theorem nd_no1 {S : List (ByteArray × Int)} {M : List (List Int)} {W : List Int} {R : List RV} {V : List Int} (h : cmB S M W V = false) : neB S M W R V = false := by unfold neB ndG; rw [h]; rfl
theorem nd_no2 {S : List (ByteArray × Int)} {M : List (List Int)} {W : List Int} {R : List RV} {V : List Int} (h : dokB S R = false) : neB S M W R V = false := by unfold neB ndG; rw [h, Bool.and_false]; rfl
theorem nd_yes {S : List (ByteArray × Int)} {M : List (List Int)} {W : List Int} {R : List RV} {V : List Int} (h1 : cmB S M W V = true) (h2 : dokB S R = true) : neB S M W R V = (ndO M W R V).isSome := by unfold neB ndG; rw [h1, h2]; rfl
end Go.Proofs.Ytmcibcechffppaa
