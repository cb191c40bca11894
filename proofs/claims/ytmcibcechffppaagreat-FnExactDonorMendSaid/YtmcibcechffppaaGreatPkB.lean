import Derived.Test.YtmcibcechffppaaGreatPkF
import Derived.Test.YtmcibcechffppaaGreatEdP
import Derived.Test.YtmcibcechffppaaGreatPkA
import Derived.Test.YtmcibcechffppaaGreatEdV
import Derived.Deep.DeepCutAuto
import Derived.Test.YtmcibcechffppaaGreatEdX
namespace Go.Proofs.YtmcibcechffppaaGreat
open Go.RowKit
set_option maxRecDepth 100000

/-- A small schema, edits and data for it. -/
def sdB (S : List (ByteArray × Int)) (M : List (List Int)) (R : List RV) : Bool := smB S M && dokB S R
theorem sd_no1 {S : List (ByteArray × Int)} {M : List (List Int)} {R : List RV} (h : smB S M = false) : sdB S M R = false := by unfold sdB; rw [h]; rfl
theorem sd_no2 {S : List (ByteArray × Int)} {M : List (List Int)} {R : List RV} (h : dokB S R = false) : sdB S M R = false := by unfold sdB; rw [h, Bool.and_false]
theorem sd_yes {S : List (ByteArray × Int)} {M : List (List Int)} {R : List RV} (h : smB S M = true) (k : dokB S R = true) : sdB S M R = true := by unfold sdB; rw [h, k]; rfl
theorem sd_get {S : List (ByteArray × Int)} {M : List (List Int)} {R : List RV} (h : sdB S M R = true) : smB S M = true ∧ dokB S R = true := by
  unfold sdB at h
  rwa [Bool.and_eq_true] at h
/-- Does the record with this index fail an edit? The records that do. -/
def frB (M D : List (List Int)) (i : Nat) : Bool := match D[i]? with | some V => faB M V | none => false
theorem fr_at {M D : List (List Int)} {V : List Int} {i : Nat} (h : D[i]? = some V) : frB M D i = faB M V := by unfold frB; rw [h]
def frUp (M D : List (List Int)) (n : Nat) : List Int := pkUp (frB M D) n
def frL (M D : List (List Int)) : List Int := frUp M D D.length
theorem frUp_len (M D : List (List Int)) (n : Nat) : (frUp M D n).length ≤ n := pkUp_len _ _

theorem frL_len (M D : List (List Int)) : (frL M D).length ≤ D.length := pkUp_len _ _
theorem sd_len {S : List (ByteArray × Int)} {M : List (List Int)} {R : List RV} (h : sdB S M R = true) : R.length ≤ 40 := dokB_len (sd_get h).2
end Go.Proofs.YtmcibcechffppaaGreat

namespace Go.Proofs.YtmcibcechffppaaGreat
open Go.RowKit
set_option maxRecDepth 100000

set_option maxHeartbeats 1000000 in
theorem l1Has_any (y : Option Addr) (c : Nat) (L : List Int) (n : Int) (w : World) (hL : IIn w y L) :
    Calls Tryz.prog 125 #[.slice y L.length c, .int .i64 n] w fun e w' => e = .returned (.bool (L.contains n)) ∧ w = w' := by
  have hLh := Lib.hid hL
  have hLl := hL.1
  clear hL
  go_enter Tryz.func125, Tryz.ntmps125
  go_wp2
  go_loopw [9] (fun c wr => ∃ i : Nat, i ≤ L.length ∧ c = .int .i64 i ∧ Hid (∀ j, j < i → ¬ L[j]? = some n) ∧ w = wr) (fun c _ => L.length - (intOf c).toNat)
  case atStart => exact ⟨0, by omega, rfl, (fun j hj => absurd hj (by omega)), rfl⟩
  case round =>
    obtain ⟨i, hi, rfl, hall, rfl⟩ := hrel
    by_cases hlt : i < L.length
    · obtain ⟨bl, off, v, rfl, hbl, hLi, hc0⟩ := hLh.out.2.2.int hlt
      have hLih := Lib.hid hLi
      have hlt' : (i : Int) < (L.length : Int) := by omega
      have hi0 : (0 : Int) ≤ (i : Int) := by omega
      clear hLi
      by_cases he : v = n
      · have hv : Hid (L.contains n = true) := by unfold Hid; rw [List.contains_iff_mem, ← he]; exact List.mem_of_getElem? hLih.out
        have heb : (v == n) = true := by rw [beq_iff_eq]; exact he
        replace he := Lib.hid he
        go_wp2
        go_ret
        exact ⟨ret_bool hv.out.symm, rfl⟩
      · have heb : (v == n) = false := by rw [beq_eq_false_iff_ne]; exact he
        have hne : Hid (¬ L[i]? = some n) := by unfold Hid; rw [hLih.out]; intro h; exact he (Option.some.inj h)
        replace he := Lib.hid he
        go_wp2
        go_roundw
        case rel =>
          refine ⟨i + 1, by omega, by go_num, fun j hj => ?_, by first | rfl | trivial⟩
          rcases Nat.lt_or_ge j i with hj2 | hj2
          · exact hall.out j hj2
          · obtain rfl : j = i := by omega
            exact hne.out
        case measure => simp [intOf]; omega
    · have hij : i = L.length := by omega
      subst hij
      have hv : Hid (L.contains n = false) := by
        unfold Hid
        cases h : L.contains n with
        | false => rfl
        | true =>
          rw [List.contains_iff_mem] at h
          obtain ⟨j, hj, e⟩ := List.getElem_of_mem h
          exact absurd (by rw [List.getElem?_eq_getElem hj, e]) (hall.out j hj)
      clear hall
      go_wp2
      go_ret
      exact ⟨ret_bool hv.out.symm, rfl⟩
/-- What slices.Index tells of a list and a number. -/
def ixP (L : List Int) (n k : Int) : Prop := -1 ≤ k ∧ k < 1048577 ∧ decide (0 ≤ k) = L.contains n
set_option maxHeartbeats 1000000 in
theorem index_any (y : Option Addr) (c : Nat) (L : List Int) (n : Int) (w : World) (hL : IIn w y L) :
    Calls Tryz.prog 117 #[.slice y L.length c, .int .i64 n] w fun e w' => ∃ k, e = .returned (.int .i64 k) ∧ ixP L n k ∧ w = w' := by
  have hLh := Lib.hid hL
  have hLl := hL.1
  clear hL
  go_enter Tryz.func117, Tryz.ntmps117
  go_wp2
  go_loopw [8] (fun c wr => ∃ i : Nat, i ≤ L.length ∧ c = .int .i64 i ∧ Hid (∀ j, j < i → ¬ L[j]? = some n) ∧ w = wr) (fun c _ => L.length - (intOf c).toNat)
  case atStart => exact ⟨0, by omega, rfl, (fun j hj => absurd hj (by omega)), rfl⟩
  case round =>
    obtain ⟨i, hi, rfl, hall, rfl⟩ := hrel
    by_cases hlt : i < L.length
    · obtain ⟨bl, off, v, rfl, hbl, hLi, hc0⟩ := hLh.out.2.2.int hlt
      have hLih := Lib.hid hLi
      have hlt' : (i : Int) < (L.length : Int) := by omega
      have hi0 : (0 : Int) ≤ (i : Int) := by omega
      clear hLi
      by_cases he : v = n
      · have hv : Hid (L.contains n = true) := by unfold Hid; rw [List.contains_iff_mem, ← he]; exact List.mem_of_getElem? hLih.out
        have heb : (n == v) = true := by rw [beq_iff_eq]; exact he.symm
        replace he := Lib.hid he
        go_wp2
        go_ret
        exact ⟨_, rfl, ⟨by omega, by omega, by rw [hv.out]; exact decide_eq_true (by omega)⟩, rfl⟩
      · have heb : (n == v) = false := by rw [beq_eq_false_iff_ne]; exact fun h => he h.symm
        have hne : Hid (¬ L[i]? = some n) := by unfold Hid; rw [hLih.out]; intro h; exact he (Option.some.inj h)
        replace he := Lib.hid he
        go_wp2
        go_roundw
        case rel =>
          refine ⟨i + 1, by omega, by go_num, fun j hj => ?_, by first | rfl | trivial⟩
          rcases Nat.lt_or_ge j i with hj2 | hj2
          · exact hall.out j hj2
          · obtain rfl : j = i := by omega
            exact hne.out
        case measure => simp [intOf]; omega
    · have hij : i = L.length := by omega
      subst hij
      have hv : Hid (L.contains n = false) := by
        unfold Hid
        cases h : L.contains n with
        | false => rfl
        | true =>
          rw [List.contains_iff_mem] at h
          obtain ⟨j, hj, e⟩ := List.getElem_of_mem h
          exact absurd (by rw [List.getElem?_eq_getElem hj, e]) (hall.out j hj)
      clear hall
      go_wp2
      go_ret
      exact ⟨_, rfl, ⟨by omega, by omega, by rw [hv.out]; exact decide_eq_false (by omega)⟩, rfl⟩
theorem contains_any (y : Option Addr) (c : Nat) (L : List Int) (n : Int) (w : World) (hL : IIn w y L) :
    Calls Tryz.prog 75 #[.slice y L.length c, .int .i64 n] w fun e w' => e = .returned (.bool (L.contains n)) ∧ w = w' := by
  go_enter Tryz.func75, Tryz.ntmps75
  go_wp2_with fail
  refine (index_any _ _ L n _ hL).mono ?_
  rintro e w1 ⟨k, rfl, ⟨h0, h1, h2⟩, rfl⟩
  have hv := Lib.hid h2
  clear h2
  go_wp2
  go_ret
  exact ⟨ret_bool hv.out, rfl⟩
end Go.Proofs.YtmcibcechffppaaGreat

namespace Go.Proofs.YtmcibcechffppaaGreat
open Go.RowKit
set_option maxRecDepth 100000

/-- The variables in which two lists of values differ. -/
def dvB (V X : List Int) (i : Nat) : Bool := !decide (V[i]? = X[i]?)
def dvL (V X : List Int) : List Int := pkUp (dvB V X) V.length
theorem dvL_len (V X : List Int) : (dvL V X).length ≤ V.length := pkUp_len _ _
theorem pk_iinW {w : World} {x : Option Addr} {p : Nat → Bool} {n : Nat} (hn : n ≤ 1000) (h : Rd w x (iC (pkUp p n))) : IIn w x (pkUp p n) := ⟨by have := pkUp_len p n; omega, fun v hv => by
  obtain ⟨i, rfl, hi, _⟩ := pkUp_mem hv
  unfold IsI64
  omega, h⟩
theorem pk_iin {w : World} {x : Option Addr} {p : Nat → Bool} {n : Nat} (hn : n ≤ 1000) (h : Rd w x (iC (pkUp p n))) : IIn w x (pkUp p n) := ⟨by have := pkUp_len p n; omega, fun v hv => by
  obtain ⟨i, rfl, hi, _⟩ := pkUp_mem hv
  unfold IsI64
  omega, h⟩
set_option maxHeartbeats 2000000 in
theorem differing_any (y z : Option Addr) (c1 c2 : Nat) (V X : List Int) (w : World) (hl : V.length = X.length) (h6 : V.length ≤ 1000) (hV : IIn w y V) (hX : IIn w z X) :
    Calls Tryz.prog 88 #[.slice y V.length c1, .slice z X.length c2] w (RetL (dvL V X) w) := by
  obtain ⟨i0, hii, hz0, hz1, hz2⟩ := info_parts Tryz.infoInt
  have hVh := Lib.hid hV
  have hXh := Lib.hid hX
  have hlh := Lib.hid hl
  clear hV hX hl
  go_enter Tryz.func88, Tryz.ntmps88
  go_wp2
  go_loopw [5, 9] (fun u c wr => ∃ i : Nat, i ≤ V.length ∧ c = .int .i64 i ∧ wr.ownsRow w.heap.size 3 1 u (pkUp (dvB V X) i).length (iC (pkUp (dvB V X) i)) ∧ Below w.heap.size w wr) (fun _ c _ => V.length - (intOf c).toNat)
  case atStart => exact ⟨0, by omega, rfl, World.ownsRow_nil _ _ _ _, (by repeat (first | exact Below.refl _ _ | assumption | refine Below.drew ?_ | refine below_drewN ?_ _ | refine Below.alloc' ?_ _ | (refine Below.setCell ?_ (by first | omega | (simp; done) | (simp; omega) | exact Below.size (by assumption) | exact Nat.le_trans (Below.size (by assumption)) (by simp)) _) | (refine Below.via' ?_ (by assumption)) | (refine Below.alloc ?_ (by first | omega | (simp; done) | (simp; omega) | exact Below.size (by assumption) | exact Nat.le_trans (Below.size (by assumption)) (by simp)) _) | (refine Below.via ?_ (by assumption) (by first | omega | (simp; done) | (simp; omega) | exact Below.size (by assumption) | exact Nat.le_trans (Below.size (by assumption)) (by simp)))))⟩
  case round =>
    obtain ⟨i, hi, rfl, hown, hBr⟩ := hrel
    have hownh := Lib.hid hown
    clear hown
    have hsl := pkUp_len (dvB V X) i
    by_cases hlt : i < V.length
    · obtain ⟨bl, off, a, rfl, hbl, hVi, hc0⟩ := (hVh.out.below hBr).2.2.int hlt
      obtain ⟨bl2, off2, d, rfl, hbl2, hXi, hc1⟩ := (hXh.out.below hBr).2.2.int (i := i) (by have := hlh.out; omega)
      have hlt' : (i : Int) < (V.length : Int) := by omega
      have hlt2 : (i : Int) < (X.length : Int) := by have := hlh.out; omega
      have hi0 : (0 : Int) ≤ (i : Int) := by omega
      by_cases he : a = d
      · have hsel : Hid (pkUp (dvB V X) (i + 1) = pkUp (dvB V X) i) := pkUp_no (by unfold dvB; rw [hVi, hXi, he]; simp)
        have heb : (a == d) = true := by rw [beq_iff_eq]; exact he
        replace he := Lib.hid he
        replace hVi := Lib.hid hVi
        replace hXi := Lib.hid hXi
        go_wp2
        go_region
        all_goals
          go_wp2
          go_roundw
          case rel => exact ⟨i + 1, by omega, by go_num, by rw [hsel.out]; exact hownh.out, (by repeat (first | exact Below.refl _ _ | assumption | refine Below.drew ?_ | refine below_drewN ?_ _ | refine Below.alloc' ?_ _ | (refine Below.setCell ?_ (by first | omega | (simp; done) | (simp; omega) | exact Below.size (by assumption) | exact Nat.le_trans (Below.size (by assumption)) (by simp)) _) | (refine Below.via' ?_ (by assumption)) | (refine Below.alloc ?_ (by first | omega | (simp; done) | (simp; omega) | exact Below.size (by assumption) | exact Nat.le_trans (Below.size (by assumption)) (by simp)) _) | (refine Below.via ?_ (by assumption) (by first | omega | (simp; done) | (simp; omega) | exact Below.size (by assumption) | exact Nat.le_trans (Below.size (by assumption)) (by simp)))))⟩
          case measure => simp [intOf]; omega
      · have hsel : Hid (pkUp (dvB V X) (i + 1) = pkUp (dvB V X) i ++ [(i : Int)]) := pkUp_yes (by unfold dvB; rw [hVi, hXi]; simp [he])
        have heb : (a == d) = false := by rw [beq_eq_false_iff_ne]; exact he
        replace he := Lib.hid he
        replace hVi := Lib.hid hVi
        replace hXi := Lib.hid hXi
        go_wp2
        go_upto_region 5 with fail
        go_cut [20] (fun s20 wx => s20 = .bool true ∧ Hid (wx.ownsRow w.heap.size 3 1 u5 (pkUp (dvB V X) i).length (iC (pkUp (dvB V X) i))) ∧ Below w.heap.size w wx)
        case first =>
          go_region
          all_goals
            go_wp2_with fail
            go_meet
            exact ⟨by rw [bne, heb]; rfl, hownh.out, (by repeat (first | exact Below.refl _ _ | assumption | refine Below.drew ?_ | refine below_drewN ?_ _ | refine Below.alloc' ?_ _ | (refine Below.setCell ?_ (by first | omega | (simp; done) | (simp; omega) | exact Below.size (by assumption) | exact Nat.le_trans (Below.size (by assumption)) (by simp)) _) | (refine Below.via' ?_ (by assumption)) | (refine Below.alloc ?_ (by first | omega | (simp; done) | (simp; omega) | exact Below.size (by assumption) | exact Nat.le_trans (Below.size (by assumption)) (by simp)) _) | (refine Below.via ?_ (by assumption) (by first | omega | (simp; done) | (simp; omega) | exact Below.size (by assumption) | exact Nat.le_trans (Below.size (by assumption)) (by simp)))))⟩
        obtain ⟨rfl, ow, hBx⟩ := hcut
        obtain ⟨wx, rfl⟩ : ∃ x : World, x = wc := ⟨_, rfl⟩
        clear hc0 hc1 hbl hbl2 hownh hBr
        have hlow := hBx.size
        go_wp2_with (at_builtin; go_loud (refine wpList_append_rd _ rfl (.tmp 21) (.tmp 23) 24 rfl (w.heap.size) 3 i0 (.int .i64 0) 1 8 Tryz.underlying24 hii hz0 hz1 hz2 rfl (by decide) _ (pkUp (dvB V X) i).length (iC (pkUp (dvB V X) i)) rfl ((ow.out.alloc _)) _ 1 1 rfl (Nat.le_refl _) (by intro h; cases h) (iC [((i : Int) : Int)]) rfl (rd_oneE _ _ _ _ (by simp)) (iC_one _) (by unfold maxLen; omega) (by omega) (by simp; omega) ?_); intro v3 w3 hown3 hgrow3 hwhere3)
        obtain ⟨hb4, -⟩ := append_below hBx (fun k hk => (ow.out.lt k hk).1) hgrow3 hwhere3
        have hown3 := Lib.hid (own_snocE hown3 hsel.out rfl)
        clear hgrow3 hwhere3
        go_wp2
        go_roundw
        case rel => exact ⟨i + 1, by omega, by go_num, hown3.out, hb4⟩
        case measure => simp [intOf]; omega
    · have hij : i = V.length := by omega
      subst hij
      go_wp2
      go_ret
      exact ⟨_, rfl, hownh.out, hBr⟩
end Go.Proofs.YtmcibcechffppaaGreat

namespace Go.Proofs.YtmcibcechffppaaGreat
open Go.RowKit
set_option maxRecDepth 100000

/-- One weight for each variable. -/
def wgB (S : List (ByteArray × Int)) (W : List Int) : Bool := decide (W.length = S.length) && inR W 1 100
theorem wg_no1 {S : List (ByteArray × Int)} {W : List Int} (h : W.length ≠ S.length) : wgB S W = false := by unfold wgB; rw [decide_eq_false h]; rfl
theorem wg_no2 {S : List (ByteArray × Int)} {W : List Int} (h : inR W 1 100 = false) : wgB S W = false := by unfold wgB; rw [h, Bool.and_false]
theorem wg_yes {S : List (ByteArray × Int)} {W : List Int} (h : W.length = S.length) (k : inR W 1 100 = true) : wgB S W = true := by unfold wgB; rw [decide_eq_true h, k]; rfl
theorem wg_get {S : List (ByteArray × Int)} {W : List Int} (h : wgB S W = true) : W.length = S.length ∧ inR W 1 100 = true := by
  unfold wgB at h
  rw [Bool.and_eq_true] at h
  exact ⟨of_decide_eq_true h.1, h.2⟩
theorem inR_at {G : List Int} {lo hi v : Int} {i : Nat} (h : inR G lo hi = true) (hi' : G[i]? = some v) : lo ≤ v ∧ v ≤ hi := by
  unfold inR at h
  rw [List.all_eq_true] at h
  exact (inB_iff v lo hi).1 (h v (List.mem_of_getElem? hi')) |> fun k => k
/-- The weight of a variable; the weights of a set. -/
def wtA (W : List Int) (v : Int) : Int := (W[v.toNat]?).getD 0
def swZ (W L : List Int) : Int := (L.map (wtA W)).sum
theorem wtA_at {W : List Int} {i : Nat} {n : Int} (h : W[i]? = some n) : wtA W (i : Int) = n := by unfold wtA; rw [Int.toNat_natCast, h]; rfl
theorem wtA_bd {W : List Int} (h : inR W 1 100 = true) (v : Int) : 0 ≤ wtA W v ∧ wtA W v ≤ 100 := by
  unfold wtA
  cases e : W[v.toNat]? with
  | none => exact ⟨by simp, by simp⟩
  | some n => have := inR_at h e; exact ⟨by simp; omega, by simp; omega⟩
theorem sw_snoc (W L : List Int) (v : Int) : swZ W (L ++ [v]) = swZ W L + wtA W v := by unfold swZ; rw [List.map_append, List.sum_append]; simp
theorem sw_bd {W : List Int} (h : inR W 1 100 = true) : ∀ L : List Int, 0 ≤ swZ W L ∧ swZ W L ≤ 100 * (L.length : Int)
  | [] => ⟨by simp [swZ], by simp [swZ]⟩
  | v :: L => by
    have a := sw_bd h L
    have b := wtA_bd h v
    have e : swZ W (v :: L) = wtA W v + swZ W L := by unfold swZ; simp
    rw [e, List.length_cons]
    exact ⟨by omega, by omega⟩
theorem sw_take {W L : List Int} {i : Nat} {v : Int} (h : L[i]? = some v) : swZ W (L.take (i + 1)) = swZ W (L.take i) + wtA W v := by
  rw [List.take_add_one, h, Option.toList_some, sw_snoc]
/-- The cost of a change, variable by variable. -/
def chZ (W A B : List Int) (n : Nat) : Int := swZ W (pkUp (dvB A B) n)
theorem ch_yes {W A B : List Int} {i : Nat} (h : dvB A B i = true) : chZ W A B (i + 1) = chZ W A B i + wtA W (i : Int) := by unfold chZ; rw [pkUp_yes h, sw_snoc]
theorem ch_no {W A B : List Int} {i : Nat} (h : dvB A B i = false) : chZ W A B (i + 1) = chZ W A B i := by unfold chZ; rw [pkUp_no h]
theorem ch_bd {W A B : List Int} {n : Nat} (h : inR W 1 100 = true) : 0 ≤ chZ W A B n ∧ chZ W A B n ≤ 100 * (n : Int) := by
  have a := sw_bd h (pkUp (dvB A B) n)
  have b := pkUp_len (dvB A B) n
  unfold chZ
  exact ⟨a.1, by omega⟩

set_option maxHeartbeats 1000000 in
theorem areWeights_any (x y : Option Addr) (c1 c2 : Nat) (S : List (ByteArray × Int)) (W : List Int) (w : World) (hm : S.length ≤ 1048576) (hW : IIn w y W) :
    Calls Tryz.prog 68 #[.slice x S.length c1, .slice y W.length c2] w fun e w' => e = .returned (.bool (wgB S W)) ∧ Below w.heap.size w w' := by
  have hWh := Lib.hid hW
  have hWl := hW.1
  clear hW
  by_cases hlen : W.length = S.length
  · have hne : ((W.length : Int) != (S.length : Int)) = false := by rw [bne_eq_false_iff_eq]; omega
    go_enter Tryz.func68, Tryz.ntmps68
    go_wp2
    go_loopw [14] (fun c wr => ∃ i : Nat, i ≤ W.length ∧ c = .int .i64 i ∧ Hid (∀ j, j < i → ∃ v, W[j]? = some v ∧ inB v 1 100 = true) ∧ Below w.heap.size w wr) (fun c _ => W.length - (intOf c).toNat)
    case atStart => exact ⟨0, by omega, rfl, (fun j hj => absurd hj (by omega)), (by repeat (first | exact Below.refl _ _ | assumption | refine Below.drew ?_ | refine below_drewN ?_ _ | refine Below.alloc' ?_ _ | (refine Below.setCell ?_ (by first | omega | (simp; done) | (simp; omega) | exact Below.size (by assumption) | exact Nat.le_trans (Below.size (by assumption)) (by simp)) _) | (refine Below.via' ?_ (by assumption)) | (refine Below.alloc ?_ (by first | omega | (simp; done) | (simp; omega) | exact Below.size (by assumption) | exact Nat.le_trans (Below.size (by assumption)) (by simp)) _) | (refine Below.via ?_ (by assumption) (by first | omega | (simp; done) | (simp; omega) | exact Below.size (by assumption) | exact Nat.le_trans (Below.size (by assumption)) (by simp)))))⟩
    case round =>
      obtain ⟨i, hi, rfl, hall, hb⟩ := hrel
      by_cases hlt : i < W.length
      · obtain ⟨bl, off, v, rfl, hbl, hWi, hc0⟩ := (hWh.out.below hb).2.2.int hlt
        have hlt' : (i : Int) < (W.length : Int) := by omega
        have hi0 : (0 : Int) ≤ (i : Int) := by omega
        by_cases h1 : v < 1
        · have hv := Lib.hid (wg_no2 (S := S) (inR_bad hWi ((inB_no v 1 100).2 (by omega))))
          clear hWi
          go_wp2
          go_ret
          exact ⟨ret_bool hv.out.symm, (by repeat (first | exact Below.refl _ _ | assumption | refine Below.drew ?_ | refine below_drewN ?_ _ | refine Below.alloc' ?_ _ | (refine Below.setCell ?_ (by first | omega | (simp; done) | (simp; omega) | exact Below.size (by assumption) | exact Nat.le_trans (Below.size (by assumption)) (by simp)) _) | (refine Below.via' ?_ (by assumption)) | (refine Below.alloc ?_ (by first | omega | (simp; done) | (simp; omega) | exact Below.size (by assumption) | exact Nat.le_trans (Below.size (by assumption)) (by simp)) _) | (refine Below.via ?_ (by assumption) (by first | omega | (simp; done) | (simp; omega) | exact Below.size (by assumption) | exact Nat.le_trans (Below.size (by assumption)) (by simp)))))⟩
        by_cases h2 : 100 < v
        · have hv := Lib.hid (wg_no2 (S := S) (inR_bad hWi ((inB_no v 1 100).2 (by omega))))
          clear hWi
          go_wp2
          go_ret
          exact ⟨ret_bool hv.out.symm, (by repeat (first | exact Below.refl _ _ | assumption | refine Below.drew ?_ | refine below_drewN ?_ _ | refine Below.alloc' ?_ _ | (refine Below.setCell ?_ (by first | omega | (simp; done) | (simp; omega) | exact Below.size (by assumption) | exact Nat.le_trans (Below.size (by assumption)) (by simp)) _) | (refine Below.via' ?_ (by assumption)) | (refine Below.alloc ?_ (by first | omega | (simp; done) | (simp; omega) | exact Below.size (by assumption) | exact Nat.le_trans (Below.size (by assumption)) (by simp)) _) | (refine Below.via ?_ (by assumption) (by first | omega | (simp; done) | (simp; omega) | exact Below.size (by assumption) | exact Nat.le_trans (Below.size (by assumption)) (by simp)))))⟩
        have hgood := (inB_iff v 1 100).2 ⟨by omega, by omega⟩
        replace hWi := Lib.hid hWi
        go_wp2
        go_roundw
        case rel =>
          refine ⟨i + 1, by omega, by go_num, fun j hj => ?_, (by repeat (first | exact Below.refl _ _ | assumption | refine Below.drew ?_ | refine below_drewN ?_ _ | refine Below.alloc' ?_ _ | (refine Below.setCell ?_ (by first | omega | (simp; done) | (simp; omega) | exact Below.size (by assumption) | exact Nat.le_trans (Below.size (by assumption)) (by simp)) _) | (refine Below.via' ?_ (by assumption)) | (refine Below.alloc ?_ (by first | omega | (simp; done) | (simp; omega) | exact Below.size (by assumption) | exact Nat.le_trans (Below.size (by assumption)) (by simp)) _) | (refine Below.via ?_ (by assumption) (by first | omega | (simp; done) | (simp; omega) | exact Below.size (by assumption) | exact Nat.le_trans (Below.size (by assumption)) (by simp)))))⟩
          rcases Nat.lt_or_ge j i with hj2 | hj2
          · exact hall.out j hj2
          · obtain rfl : j = i := by omega
            exact ⟨v, hWi.out, hgood⟩
        case measure => simp [intOf]; omega
      · have hij : i = W.length := by omega
        subst hij
        have hv := Lib.hid (wg_yes hlen (inR_all hall.out))
        clear hall
        go_wp2
        go_ret
        exact ⟨ret_bool hv.out.symm, (by repeat (first | exact Below.refl _ _ | assumption | refine Below.drew ?_ | refine below_drewN ?_ _ | refine Below.alloc' ?_ _ | (refine Below.setCell ?_ (by first | omega | (simp; done) | (simp; omega) | exact Below.size (by assumption) | exact Nat.le_trans (Below.size (by assumption)) (by simp)) _) | (refine Below.via' ?_ (by assumption)) | (refine Below.alloc ?_ (by first | omega | (simp; done) | (simp; omega) | exact Below.size (by assumption) | exact Nat.le_trans (Below.size (by assumption)) (by simp)) _) | (refine Below.via ?_ (by assumption) (by first | omega | (simp; done) | (simp; omega) | exact Below.size (by assumption) | exact Nat.le_trans (Below.size (by assumption)) (by simp)))))⟩
  · have hne : ((W.length : Int) != (S.length : Int)) = true := by rw [bne_iff_ne]; omega
    have hv := Lib.hid (wg_no1 hlen)
    go_enter Tryz.func68, Tryz.ntmps68
    go_wp2
    go_ret
    exact ⟨ret_bool hv.out.symm, (by repeat (first | exact Below.refl _ _ | assumption | refine Below.drew ?_ | refine below_drewN ?_ _ | refine Below.alloc' ?_ _ | (refine Below.setCell ?_ (by first | omega | (simp; done) | (simp; omega) | exact Below.size (by assumption) | exact Nat.le_trans (Below.size (by assumption)) (by simp)) _) | (refine Below.via' ?_ (by assumption)) | (refine Below.alloc ?_ (by first | omega | (simp; done) | (simp; omega) | exact Below.size (by assumption) | exact Nat.le_trans (Below.size (by assumption)) (by simp)) _) | (refine Below.via ?_ (by assumption) (by first | omega | (simp; done) | (simp; omega) | exact Below.size (by assumption) | exact Nat.le_trans (Below.size (by assumption)) (by simp)))))⟩
set_option maxHeartbeats 1000000 in
theorem iWeights_any (x y : Option Addr) (c1 c2 : Nat) (S : List (ByteArray × Int)) (W : List Int) (w : World) (hW : IIn w y W) :
    Calls Tryz.prog 61 #[.slice x S.length c1, .slice y W.length c2] w fun e w' => e = .returned (.bool (wgB S W)) ∧ Below w.heap.size w w' := by
  have hWh := Lib.hid hW
  have hWl := hW.1
  clear hW
  by_cases hlen : W.length = S.length
  · have hne : ((W.length : Int) == (S.length : Int)) = true := by rw [beq_iff_eq]; omega
    have hv : Hid (inR W 1 100 = wgB S W) := by
      unfold Hid
      cases h : inR W 1 100
      · rw [wg_no2 h]
      · rw [wg_yes hlen h]
    replace hlen := Lib.hid hlen
    go_enter Tryz.func61, Tryz.ntmps61
    go_wp2_with (go_at_call 105; refine (l1All_any _ _ W _ _ _ hWl (hWh.out.2.2.below (by exact (by repeat (first | exact Below.refl _ _ | assumption | refine Below.drew ?_ | refine below_drewN ?_ _ | refine Below.alloc' ?_ _ | (refine Below.setCell ?_ (by first | omega | (simp; done) | (simp; omega) | exact Below.size (by assumption) | exact Nat.le_trans (Below.size (by assumption)) (by simp)) _) | (refine Below.via' ?_ (by assumption)) | (refine Below.alloc ?_ (by first | omega | (simp; done) | (simp; omega) | exact Below.size (by assumption) | exact Nat.le_trans (Below.size (by assumption)) (by simp)) _) | (refine Below.via ?_ (by assumption) (by first | omega | (simp; done) | (simp; omega) | exact Below.size (by assumption) | exact Nat.le_trans (Below.size (by assumption)) (by simp)))))))).mono ?_; rintro e w1 ⟨rfl, rfl⟩)
    go_ret
    exact ⟨ret_bool hv.out, (by repeat (first | exact Below.refl _ _ | assumption | refine Below.drew ?_ | refine below_drewN ?_ _ | refine Below.alloc' ?_ _ | (refine Below.setCell ?_ (by first | omega | (simp; done) | (simp; omega) | exact Below.size (by assumption) | exact Nat.le_trans (Below.size (by assumption)) (by simp)) _) | (refine Below.via' ?_ (by assumption)) | (refine Below.alloc ?_ (by first | omega | (simp; done) | (simp; omega) | exact Below.size (by assumption) | exact Nat.le_trans (Below.size (by assumption)) (by simp)) _) | (refine Below.via ?_ (by assumption) (by first | omega | (simp; done) | (simp; omega) | exact Below.size (by assumption) | exact Nat.le_trans (Below.size (by assumption)) (by simp)))))⟩
  · have hne : ((W.length : Int) == (S.length : Int)) = false := by rw [beq_eq_false_iff_ne]; omega
    have hv := Lib.hid (wg_no1 hlen)
    go_enter Tryz.func61, Tryz.ntmps61
    go_wp2
    go_ret
    exact ⟨ret_bool hv.out.symm, (by repeat (first | exact Below.refl _ _ | assumption | refine Below.drew ?_ | refine below_drewN ?_ _ | refine Below.alloc' ?_ _ | (refine Below.setCell ?_ (by first | omega | (simp; done) | (simp; omega) | exact Below.size (by assumption) | exact Nat.le_trans (Below.size (by assumption)) (by simp)) _) | (refine Below.via' ?_ (by assumption)) | (refine Below.alloc ?_ (by first | omega | (simp; done) | (simp; omega) | exact Below.size (by assumption) | exact Nat.le_trans (Below.size (by assumption)) (by simp)) _) | (refine Below.via ?_ (by assumption) (by first | omega | (simp; done) | (simp; omega) | exact Below.size (by assumption) | exact Nat.le_trans (Below.size (by assumption)) (by simp)))))⟩
set_option maxHeartbeats 1000000 in
theorem sumWeights_any (x y : Option Addr) (c1 c2 : Nat) (W L : List Int) (w : World) (hw : inR W 1 100 = true) (hl : L.length ≤ 1000) (hL : ∀ v ∈ L, 0 ≤ v ∧ v < (W.length : Int)) (hWi : IIn w x W) (hLi : IIn w y L) :
    Calls Tryz.prog 87 #[.slice x W.length c1, .slice y L.length c2] w fun e w' => e = .returned (.int .i64 (swZ W L)) ∧ Below w.heap.size w w' := by
  have hWh := Lib.hid hWi
  have hWl := hWi.1
  have hLh := Lib.hid hLi
  have hb0 := Lib.hid (fun M : List Int => sw_bd hw M)
  have hwt := Lib.hid (wtA_bd hw)
  have hLm := Lib.hid hL
  clear hWi hLi hL
  go_enter Tryz.func87, Tryz.ntmps87
  go_wp2
  go_loopw [5, 10] (fun q c wr => ∃ i : Nat, i ≤ L.length ∧ c = .int .i64 i ∧ q = .int .i64 (swZ W (L.take i)) ∧ Below w.heap.size w wr) (fun _ c _ => L.length - (intOf c).toNat)
  case atStart => exact ⟨0, by omega, rfl, rfl, (by repeat (first | exact Below.refl _ _ | assumption | refine Below.drew ?_ | refine below_drewN ?_ _ | refine Below.alloc' ?_ _ | (refine Below.setCell ?_ (by first | omega | (simp; done) | (simp; omega) | exact Below.size (by assumption) | exact Nat.le_trans (Below.size (by assumption)) (by simp)) _) | (refine Below.via' ?_ (by assumption)) | (refine Below.alloc ?_ (by first | omega | (simp; done) | (simp; omega) | exact Below.size (by assumption) | exact Nat.le_trans (Below.size (by assumption)) (by simp)) _) | (refine Below.via ?_ (by assumption) (by first | omega | (simp; done) | (simp; omega) | exact Below.size (by assumption) | exact Nat.le_trans (Below.size (by assumption)) (by simp)))))⟩
  case round =>
    obtain ⟨i, hi, rfl, rfl, hb⟩ := hrel
    by_cases hlt : i < L.length
    · obtain ⟨bl, off, v, rfl, hbl, hLv, hc0⟩ := (hLh.out.below hb).2.2.int hlt
      obtain ⟨v1, v2⟩ := hLm.out v (List.mem_of_getElem? hLv)
      obtain ⟨k, rfl⟩ : ∃ k : Nat, v = (k : Int) := ⟨v.toNat, by omega⟩
      obtain ⟨bl2, off2, n, rfl, hbl2, hWk, hc1⟩ := (hWh.out.below hb).2.2.int (i := k) (by omega)
      have hst := Lib.hid (sw_take (W := W) hLv)
      have hwn := Lib.hid (wtA_at hWk)
      have hb1 := hb0.out (L.take i)
      have hb2 : ((L.take i).length : Int) ≤ 1000 := by rw [List.length_take]; omega
      have hn := hwt.out (k : Int)
      rw [hwn.out] at hn
      have hlt' : (i : Int) < (L.length : Int) := by omega
      have hi0 : (0 : Int) ≤ (i : Int) := by omega
      replace hLv := Lib.hid hLv
      replace hWk := Lib.hid hWk
      go_wp2
      go_roundw
      case rel => exact ⟨i + 1, by omega, by go_num, (by rw [hst.out, hwn.out]; try rw [IntWalk.i64_in _ (by omega)]), (by repeat (first | exact Below.refl _ _ | assumption | refine Below.drew ?_ | refine below_drewN ?_ _ | refine Below.alloc' ?_ _ | (refine Below.setCell ?_ (by first | omega | (simp; done) | (simp; omega) | exact Below.size (by assumption) | exact Nat.le_trans (Below.size (by assumption)) (by simp)) _) | (refine Below.via' ?_ (by assumption)) | (refine Below.alloc ?_ (by first | omega | (simp; done) | (simp; omega) | exact Below.size (by assumption) | exact Nat.le_trans (Below.size (by assumption)) (by simp)) _) | (refine Below.via ?_ (by assumption) (by first | omega | (simp; done) | (simp; omega) | exact Below.size (by assumption) | exact Nat.le_trans (Below.size (by assumption)) (by simp)))))⟩
      case measure => simp [intOf]; omega
    · have hij : i = L.length := by omega
      subst hij
      go_wp2
      go_ret
      exact ⟨ret_int (by rw [List.take_length]), (by repeat (first | exact Below.refl _ _ | assumption | refine Below.drew ?_ | refine below_drewN ?_ _ | refine Below.alloc' ?_ _ | (refine Below.setCell ?_ (by first | omega | (simp; done) | (simp; omega) | exact Below.size (by assumption) | exact Nat.le_trans (Below.size (by assumption)) (by simp)) _) | (refine Below.via' ?_ (by assumption)) | (refine Below.alloc ?_ (by first | omega | (simp; done) | (simp; omega) | exact Below.size (by assumption) | exact Nat.le_trans (Below.size (by assumption)) (by simp)) _) | (refine Below.via ?_ (by assumption) (by first | omega | (simp; done) | (simp; omega) | exact Below.size (by assumption) | exact Nat.le_trans (Below.size (by assumption)) (by simp)))))⟩
set_option maxHeartbeats 2000000 in
theorem iChanged_any (x y z : Option Addr) (c1 c2 c3 : Nat) (W V X : List Int) (w : World) (hw : inR W 1 100 = true) (hl : V.length = X.length) (hl2 : V.length = W.length) (h6 : V.length ≤ 1000) (hWi : IIn w x W) (hV : IIn w y V) (hX : IIn w z X) :
    Calls Tryz.prog 64 #[.slice x W.length c1, .slice y V.length c2, .slice z X.length c3] w fun e w' => e = .returned (.int .i64 (swZ W (dvL V X))) ∧ Below w.heap.size w w' := by
  have hWh := Lib.hid hWi
  have hVh := Lib.hid hV
  have hXh := Lib.hid hX
  have hlh := Lib.hid hl
  have hlw := Lib.hid hl2
  have hb0 := Lib.hid (fun n : Nat => ch_bd (A := V) (B := X) (n := n) hw)
  have hwt := Lib.hid (wtA_bd hw)
  clear hWi hV hX hl hl2
  go_enter Tryz.func64, Tryz.ntmps64
  go_wp2
  go_loopw [7, 11] (fun q c wr => ∃ i : Nat, i ≤ V.length ∧ c = .int .i64 i ∧ q = .int .i64 (chZ W V X i) ∧ Below w.heap.size w wr) (fun _ c _ => V.length - (intOf c).toNat)
  case atStart => exact ⟨0, by omega, rfl, rfl, (by repeat (first | exact Below.refl _ _ | assumption | refine Below.drew ?_ | refine below_drewN ?_ _ | refine Below.alloc' ?_ _ | (refine Below.setCell ?_ (by first | omega | (simp; done) | (simp; omega) | exact Below.size (by assumption) | exact Nat.le_trans (Below.size (by assumption)) (by simp)) _) | (refine Below.via' ?_ (by assumption)) | (refine Below.alloc ?_ (by first | omega | (simp; done) | (simp; omega) | exact Below.size (by assumption) | exact Nat.le_trans (Below.size (by assumption)) (by simp)) _) | (refine Below.via ?_ (by assumption) (by first | omega | (simp; done) | (simp; omega) | exact Below.size (by assumption) | exact Nat.le_trans (Below.size (by assumption)) (by simp)))))⟩
  case round =>
    obtain ⟨i, hi, rfl, rfl, hb⟩ := hrel
    by_cases hlt : i < V.length
    · obtain ⟨bl, off, a, rfl, hbl, hVi, hc0⟩ := (hVh.out.below hb).2.2.int hlt
      obtain ⟨bl2, off2, d, rfl, hbl2, hXi, hc1⟩ := (hXh.out.below hb).2.2.int (i := i) (by have := hlh.out; omega)
      obtain ⟨bl3, off3, n, rfl, hbl3, hWi, hc2⟩ := (hWh.out.below hb).2.2.int (i := i) (by have := hlw.out; omega)
      have hwn := Lib.hid (wtA_at hWi)
      have hbb := hb0.out i
      have hn := hwt.out (i : Int)
      rw [hwn.out] at hn
      have hlt' : (i : Int) < (V.length : Int) := by omega
      have hlt2 : (i : Int) < (X.length : Int) := by have := hlh.out; omega
      have hlt3 : (i : Int) < (W.length : Int) := by have := hlw.out; omega
      have hi0 : (0 : Int) ≤ (i : Int) := by omega
      by_cases he : a = d
      · have hsel := Lib.hid (ch_no (W := W) (show dvB V X i = false by unfold dvB; rw [hVi, hXi, he]; simp))
        have heb : (a == d) = true := by rw [beq_iff_eq]; exact he
        replace he := Lib.hid he
        replace hVi := Lib.hid hVi
        replace hXi := Lib.hid hXi
        replace hWi := Lib.hid hWi
        go_wp2
        go_region
        all_goals
          go_wp2
          go_roundw
          case rel => exact ⟨i + 1, by omega, by go_num, by rw [hsel.out], (by repeat (first | exact Below.refl _ _ | assumption | refine Below.drew ?_ | refine below_drewN ?_ _ | refine Below.alloc' ?_ _ | (refine Below.setCell ?_ (by first | omega | (simp; done) | (simp; omega) | exact Below.size (by assumption) | exact Nat.le_trans (Below.size (by assumption)) (by simp)) _) | (refine Below.via' ?_ (by assumption)) | (refine Below.alloc ?_ (by first | omega | (simp; done) | (simp; omega) | exact Below.size (by assumption) | exact Nat.le_trans (Below.size (by assumption)) (by simp)) _) | (refine Below.via ?_ (by assumption) (by first | omega | (simp; done) | (simp; omega) | exact Below.size (by assumption) | exact Nat.le_trans (Below.size (by assumption)) (by simp)))))⟩
          case measure => simp [intOf]; omega
      · have hsel := Lib.hid (ch_yes (W := W) (show dvB V X i = true by unfold dvB; rw [hVi, hXi]; simp [he]))
        have heb : (a == d) = false := by rw [beq_eq_false_iff_ne]; exact he
        replace he := Lib.hid he
        replace hVi := Lib.hid hVi
        replace hXi := Lib.hid hXi
        replace hWi := Lib.hid hWi
        have heb2 : (a != d) = true := by rw [bne, heb]; rfl
        go_wp2
        go_region
        all_goals
          go_wp2
          first
            | (go_roundw
               case rel => exact ⟨i + 1, by omega, by go_num, (by rw [hsel.out, hwn.out]; try rw [IntWalk.i64_in _ (by omega)]), (by repeat (first | exact Below.refl _ _ | assumption | refine Below.drew ?_ | refine below_drewN ?_ _ | refine Below.alloc' ?_ _ | (refine Below.setCell ?_ (by first | omega | (simp; done) | (simp; omega) | exact Below.size (by assumption) | exact Nat.le_trans (Below.size (by assumption)) (by simp)) _) | (refine Below.via' ?_ (by assumption)) | (refine Below.alloc ?_ (by first | omega | (simp; done) | (simp; omega) | exact Below.size (by assumption) | exact Nat.le_trans (Below.size (by assumption)) (by simp)) _) | (refine Below.via ?_ (by assumption) (by first | omega | (simp; done) | (simp; omega) | exact Below.size (by assumption) | exact Nat.le_trans (Below.size (by assumption)) (by simp)))))⟩
               case measure => simp [intOf]; omega)
            | (go_region
               all_goals
                 go_wp2
                 go_roundw
                 case rel => exact ⟨i + 1, by omega, by go_num, (by rw [hsel.out, hwn.out]; try rw [IntWalk.i64_in _ (by omega)]), (by repeat (first | exact Below.refl _ _ | assumption | refine Below.drew ?_ | refine below_drewN ?_ _ | refine Below.alloc' ?_ _ | (refine Below.setCell ?_ (by first | omega | (simp; done) | (simp; omega) | exact Below.size (by assumption) | exact Nat.le_trans (Below.size (by assumption)) (by simp)) _) | (refine Below.via' ?_ (by assumption)) | (refine Below.alloc ?_ (by first | omega | (simp; done) | (simp; omega) | exact Below.size (by assumption) | exact Nat.le_trans (Below.size (by assumption)) (by simp)) _) | (refine Below.via ?_ (by assumption) (by first | omega | (simp; done) | (simp; omega) | exact Below.size (by assumption) | exact Nat.le_trans (Below.size (by assumption)) (by simp)))))⟩
                 case measure => simp [intOf]; omega)
    · have hij : i = V.length := by omega
      subst hij
      go_wp2
      go_ret
      exact ⟨ret_int rfl, (by repeat (first | exact Below.refl _ _ | assumption | refine Below.drew ?_ | refine below_drewN ?_ _ | refine Below.alloc' ?_ _ | (refine Below.setCell ?_ (by first | omega | (simp; done) | (simp; omega) | exact Below.size (by assumption) | exact Nat.le_trans (Below.size (by assumption)) (by simp)) _) | (refine Below.via' ?_ (by assumption)) | (refine Below.alloc ?_ (by first | omega | (simp; done) | (simp; omega) | exact Below.size (by assumption) | exact Nat.le_trans (Below.size (by assumption)) (by simp)) _) | (refine Below.via ?_ (by assumption) (by first | omega | (simp; done) | (simp; omega) | exact Below.size (by assumption) | exact Nat.le_trans (Below.size (by assumption)) (by simp)))))⟩

/-- A schema, weights and two lists of values for it. -/
def wvB (S : List (ByteArray × Int)) (W A B : List Int) : Bool := schB S && wgB S W && fitB S A && fitB S B
theorem wv_no1 {S : List (ByteArray × Int)} {W A B : List Int} (h : schB S = false) : wvB S W A B = false := by unfold wvB; rw [h]; rfl
theorem wv_no2 {S : List (ByteArray × Int)} {W A B : List Int} (h : wgB S W = false) : wvB S W A B = false := by unfold wvB; rw [h, Bool.and_false]; rfl
theorem wv_no3 {S : List (ByteArray × Int)} {W A B : List Int} (h : fitB S A = false) : wvB S W A B = false := by unfold wvB; rw [h, Bool.and_false]; rfl
theorem wv_no4 {S : List (ByteArray × Int)} {W A B : List Int} (h : fitB S B = false) : wvB S W A B = false := by unfold wvB; rw [h, Bool.and_false]
theorem wv_yes {S : List (ByteArray × Int)} {W A B : List Int} (h1 : schB S = true) (h2 : wgB S W = true) (h3 : fitB S A = true) (h4 : fitB S B = true) : wvB S W A B = true := by unfold wvB; rw [h1, h2, h3, h4]; rfl
theorem dv_in {A B : List Int} : ∀ v ∈ dvL A B, 0 ≤ v ∧ v < (A.length : Int) := by
  intro v hv
  unfold dvL at hv
  obtain ⟨i, rfl, hi, _⟩ := pkUp_mem hv
  omega
set_option maxHeartbeats 2000000 in
theorem iCstA_x (x y z u : Option Addr) (c1 c2 c3 c4 : Nat) (S : List (ByteArray × Int)) (W A B : List Int) (w : World) (hS : SIn w x c1 S) (hW : IIn w y W) (hA : IIn w z A) (hB : IIn w u B) :
    Calls Tryz.prog 39 #[.slice x S.length c1, .slice y W.length c2, .slice z A.length c3, .slice u B.length c4] w fun e w' => e = .returned (.tuple #[.int .i64 (nIf (wvB S W A B) (swZ W (dvL A B))), .bool (wvB S W A B)]) ∧ Below w.heap.size w w' := by
  have hSh := Lib.hid hS
  have hWh := Lib.hid hW
  have hAh := Lib.hid hA
  have hBh := Lib.hid hB
  have hm := hS.1
  clear hS hW hA hB
  go_enter Tryz.func39, Tryz.ntmps39
  go_wp2_with fail
  refine (isSch_x _ _ _ _ (hSh.out.below (by exact (by repeat (first | exact Below.refl _ _ | assumption | refine Below.drew ?_ | refine below_drewN ?_ _ | refine Below.alloc' ?_ _ | (refine Below.setCell ?_ (by first | omega | (simp; done) | (simp; omega) | exact Below.size (by assumption) | exact Nat.le_trans (Below.size (by assumption)) (by simp)) _) | (refine Below.via' ?_ (by assumption)) | (refine Below.alloc ?_ (by first | omega | (simp; done) | (simp; omega) | exact Below.size (by assumption) | exact Nat.le_trans (Below.size (by assumption)) (by simp)) _) | (refine Below.via ?_ (by assumption) (by first | omega | (simp; done) | (simp; omega) | exact Below.size (by assumption) | exact Nat.le_trans (Below.size (by assumption)) (by simp)))))))).mono ?_
  rintro e w1 ⟨rfl, hb1⟩
  cases hs : schB S
  · have hv := Lib.hid (wv_no1 (W := W) (A := A) (B := B) hs)
    go_wp2
    go_ret2
    exact retN_no hv.out (by repeat (first | exact Below.refl _ _ | assumption | refine Below.drew ?_ | refine below_drewN ?_ _ | refine Below.alloc' ?_ _ | (refine Below.setCell ?_ (by first | omega | (simp; done) | (simp; omega) | exact Below.size (by assumption) | exact Nat.le_trans (Below.size (by assumption)) (by simp)) _) | (refine Below.via' ?_ (by assumption)) | (refine Below.alloc ?_ (by first | omega | (simp; done) | (simp; omega) | exact Below.size (by assumption) | exact Nat.le_trans (Below.size (by assumption)) (by simp)) _) | (refine Below.via ?_ (by assumption) (by first | omega | (simp; done) | (simp; omega) | exact Below.size (by assumption) | exact Nat.le_trans (Below.size (by assumption)) (by simp)))))
  have hsh := Lib.hid hs
  clear hs
  go_wp2_with fail
  refine (areWeights_any _ _ _ _ S W _ hm (hWh.out.below (by exact (by repeat (first | exact Below.refl _ _ | assumption | refine Below.drew ?_ | refine below_drewN ?_ _ | refine Below.alloc' ?_ _ | (refine Below.setCell ?_ (by first | omega | (simp; done) | (simp; omega) | exact Below.size (by assumption) | exact Nat.le_trans (Below.size (by assumption)) (by simp)) _) | (refine Below.via' ?_ (by assumption)) | (refine Below.alloc ?_ (by first | omega | (simp; done) | (simp; omega) | exact Below.size (by assumption) | exact Nat.le_trans (Below.size (by assumption)) (by simp)) _) | (refine Below.via ?_ (by assumption) (by first | omega | (simp; done) | (simp; omega) | exact Below.size (by assumption) | exact Nat.le_trans (Below.size (by assumption)) (by simp)))))))).mono ?_
  rintro e w2 ⟨rfl, hb2⟩
  cases hg : wgB S W
  · have hv := Lib.hid (wv_no2 (A := A) (B := B) hg)
    go_wp2
    go_ret2
    exact retN_no hv.out (by repeat (first | exact Below.refl _ _ | assumption | refine Below.drew ?_ | refine below_drewN ?_ _ | refine Below.alloc' ?_ _ | (refine Below.setCell ?_ (by first | omega | (simp; done) | (simp; omega) | exact Below.size (by assumption) | exact Nat.le_trans (Below.size (by assumption)) (by simp)) _) | (refine Below.via' ?_ (by assumption)) | (refine Below.alloc ?_ (by first | omega | (simp; done) | (simp; omega) | exact Below.size (by assumption) | exact Nat.le_trans (Below.size (by assumption)) (by simp)) _) | (refine Below.via ?_ (by assumption) (by first | omega | (simp; done) | (simp; omega) | exact Below.size (by assumption) | exact Nat.le_trans (Below.size (by assumption)) (by simp)))))
  have hgh := Lib.hid hg
  clear hg
  go_wp2_with fail
  refine (areValues_any _ _ _ _ S A _ hsh.out hm (hSh.out.rd.below (by exact (by repeat (first | exact Below.refl _ _ | assumption | refine Below.drew ?_ | refine below_drewN ?_ _ | refine Below.alloc' ?_ _ | (refine Below.setCell ?_ (by first | omega | (simp; done) | (simp; omega) | exact Below.size (by assumption) | exact Nat.le_trans (Below.size (by assumption)) (by simp)) _) | (refine Below.via' ?_ (by assumption)) | (refine Below.alloc ?_ (by first | omega | (simp; done) | (simp; omega) | exact Below.size (by assumption) | exact Nat.le_trans (Below.size (by assumption)) (by simp)) _) | (refine Below.via ?_ (by assumption) (by first | omega | (simp; done) | (simp; omega) | exact Below.size (by assumption) | exact Nat.le_trans (Below.size (by assumption)) (by simp))))))) (hAh.out.below (by exact (by repeat (first | exact Below.refl _ _ | assumption | refine Below.drew ?_ | refine below_drewN ?_ _ | refine Below.alloc' ?_ _ | (refine Below.setCell ?_ (by first | omega | (simp; done) | (simp; omega) | exact Below.size (by assumption) | exact Nat.le_trans (Below.size (by assumption)) (by simp)) _) | (refine Below.via' ?_ (by assumption)) | (refine Below.alloc ?_ (by first | omega | (simp; done) | (simp; omega) | exact Below.size (by assumption) | exact Nat.le_trans (Below.size (by assumption)) (by simp)) _) | (refine Below.via ?_ (by assumption) (by first | omega | (simp; done) | (simp; omega) | exact Below.size (by assumption) | exact Nat.le_trans (Below.size (by assumption)) (by simp)))))))).mono ?_
  rintro e w3 ⟨rfl, hb3⟩
  cases hf : fitB S A
  · have hv := Lib.hid (wv_no3 (W := W) (B := B) hf)
    go_wp2
    go_ret2
    exact retN_no hv.out (by repeat (first | exact Below.refl _ _ | assumption | refine Below.drew ?_ | refine below_drewN ?_ _ | refine Below.alloc' ?_ _ | (refine Below.setCell ?_ (by first | omega | (simp; done) | (simp; omega) | exact Below.size (by assumption) | exact Nat.le_trans (Below.size (by assumption)) (by simp)) _) | (refine Below.via' ?_ (by assumption)) | (refine Below.alloc ?_ (by first | omega | (simp; done) | (simp; omega) | exact Below.size (by assumption) | exact Nat.le_trans (Below.size (by assumption)) (by simp)) _) | (refine Below.via ?_ (by assumption) (by first | omega | (simp; done) | (simp; omega) | exact Below.size (by assumption) | exact Nat.le_trans (Below.size (by assumption)) (by simp)))))
  have hfh := Lib.hid hf
  clear hf
  go_wp2_with fail
  refine (areValues_any _ _ _ _ S B _ hsh.out hm (hSh.out.rd.below (by exact (by repeat (first | exact Below.refl _ _ | assumption | refine Below.drew ?_ | refine below_drewN ?_ _ | refine Below.alloc' ?_ _ | (refine Below.setCell ?_ (by first | omega | (simp; done) | (simp; omega) | exact Below.size (by assumption) | exact Nat.le_trans (Below.size (by assumption)) (by simp)) _) | (refine Below.via' ?_ (by assumption)) | (refine Below.alloc ?_ (by first | omega | (simp; done) | (simp; omega) | exact Below.size (by assumption) | exact Nat.le_trans (Below.size (by assumption)) (by simp)) _) | (refine Below.via ?_ (by assumption) (by first | omega | (simp; done) | (simp; omega) | exact Below.size (by assumption) | exact Nat.le_trans (Below.size (by assumption)) (by simp))))))) (hBh.out.below (by exact (by repeat (first | exact Below.refl _ _ | assumption | refine Below.drew ?_ | refine below_drewN ?_ _ | refine Below.alloc' ?_ _ | (refine Below.setCell ?_ (by first | omega | (simp; done) | (simp; omega) | exact Below.size (by assumption) | exact Nat.le_trans (Below.size (by assumption)) (by simp)) _) | (refine Below.via' ?_ (by assumption)) | (refine Below.alloc ?_ (by first | omega | (simp; done) | (simp; omega) | exact Below.size (by assumption) | exact Nat.le_trans (Below.size (by assumption)) (by simp)) _) | (refine Below.via ?_ (by assumption) (by first | omega | (simp; done) | (simp; omega) | exact Below.size (by assumption) | exact Nat.le_trans (Below.size (by assumption)) (by simp)))))))).mono ?_
  rintro e w4 ⟨rfl, hb4⟩
  cases hf : fitB S B
  · have hv := Lib.hid (wv_no4 (W := W) (A := A) hf)
    go_wp2
    go_ret2
    exact retN_no hv.out (by repeat (first | exact Below.refl _ _ | assumption | refine Below.drew ?_ | refine below_drewN ?_ _ | refine Below.alloc' ?_ _ | (refine Below.setCell ?_ (by first | omega | (simp; done) | (simp; omega) | exact Below.size (by assumption) | exact Nat.le_trans (Below.size (by assumption)) (by simp)) _) | (refine Below.via' ?_ (by assumption)) | (refine Below.alloc ?_ (by first | omega | (simp; done) | (simp; omega) | exact Below.size (by assumption) | exact Nat.le_trans (Below.size (by assumption)) (by simp)) _) | (refine Below.via ?_ (by assumption) (by first | omega | (simp; done) | (simp; omega) | exact Below.size (by assumption) | exact Nat.le_trans (Below.size (by assumption)) (by simp)))))
  have hfh2 := Lib.hid hf
  clear hf
  have hv := Lib.hid (wv_yes hsh.out hgh.out hfh.out hfh2.out)
  have hl6 := (schB_len hsh.out).2
  have hla := Lib.hid (fit_len hfh.out)
  have hlb := Lib.hid (fit_len hfh2.out)
  have hlw := Lib.hid (wg_get hgh.out).1
  have hwr := Lib.hid (wg_get hgh.out).2
  go_wp2_with fail
  refine (differing_any _ _ _ _ A B _ (by have := hla.out; have := hlb.out; omega) (by have := hla.out; omega) (hAh.out.below (by exact (by repeat (first | exact Below.refl _ _ | assumption | refine Below.drew ?_ | refine below_drewN ?_ _ | refine Below.alloc' ?_ _ | (refine Below.setCell ?_ (by first | omega | (simp; done) | (simp; omega) | exact Below.size (by assumption) | exact Nat.le_trans (Below.size (by assumption)) (by simp)) _) | (refine Below.via' ?_ (by assumption)) | (refine Below.alloc ?_ (by first | omega | (simp; done) | (simp; omega) | exact Below.size (by assumption) | exact Nat.le_trans (Below.size (by assumption)) (by simp)) _) | (refine Below.via ?_ (by assumption) (by first | omega | (simp; done) | (simp; omega) | exact Below.size (by assumption) | exact Nat.le_trans (Below.size (by assumption)) (by simp))))))) (hBh.out.below (by exact (by repeat (first | exact Below.refl _ _ | assumption | refine Below.drew ?_ | refine below_drewN ?_ _ | refine Below.alloc' ?_ _ | (refine Below.setCell ?_ (by first | omega | (simp; done) | (simp; omega) | exact Below.size (by assumption) | exact Nat.le_trans (Below.size (by assumption)) (by simp)) _) | (refine Below.via' ?_ (by assumption)) | (refine Below.alloc ?_ (by first | omega | (simp; done) | (simp; omega) | exact Below.size (by assumption) | exact Nat.le_trans (Below.size (by assumption)) (by simp)) _) | (refine Below.via ?_ (by assumption) (by first | omega | (simp; done) | (simp; omega) | exact Below.size (by assumption) | exact Nat.le_trans (Below.size (by assumption)) (by simp)))))))).mono ?_
  rintro e w5 ⟨u5, rfl, ho5, hb5⟩
  obtain ⟨x5, n5, rfl, -, -⟩ := (OwR.of ho5).form
  have hdl := dvL_len A B
  have hin5 := Lib.hid (show IIn w5 x5 (dvL A B) from pk_iinW (by have := hla.out; omega) (Rd.of_own ho5))
  clear ho5
  go_wp2_with fail
  refine (sumWeights_any _ _ _ _ W (dvL A B) _ hwr.out (by have := hla.out; omega) (fun v hv => by have := dv_in v hv; have := hla.out; have := hlw.out; omega) (hWh.out.below (by exact (by repeat (first | exact Below.refl _ _ | assumption | refine Below.drew ?_ | refine below_drewN ?_ _ | refine Below.alloc' ?_ _ | (refine Below.setCell ?_ (by first | omega | (simp; done) | (simp; omega) | exact Below.size (by assumption) | exact Nat.le_trans (Below.size (by assumption)) (by simp)) _) | (refine Below.via' ?_ (by assumption)) | (refine Below.alloc ?_ (by first | omega | (simp; done) | (simp; omega) | exact Below.size (by assumption) | exact Nat.le_trans (Below.size (by assumption)) (by simp)) _) | (refine Below.via ?_ (by assumption) (by first | omega | (simp; done) | (simp; omega) | exact Below.size (by assumption) | exact Nat.le_trans (Below.size (by assumption)) (by simp))))))) hin5.out).mono ?_
  rintro e w6 ⟨rfl, hb6⟩
  go_wp2
  go_ret2
  exact retN_yes hv.out rfl (by repeat (first | exact Below.refl _ _ | assumption | refine Below.drew ?_ | refine below_drewN ?_ _ | refine Below.alloc' ?_ _ | (refine Below.setCell ?_ (by first | omega | (simp; done) | (simp; omega) | exact Below.size (by assumption) | exact Nat.le_trans (Below.size (by assumption)) (by simp)) _) | (refine Below.via' ?_ (by assumption)) | (refine Below.alloc ?_ (by first | omega | (simp; done) | (simp; omega) | exact Below.size (by assumption) | exact Nat.le_trans (Below.size (by assumption)) (by simp)) _) | (refine Below.via ?_ (by assumption) (by first | omega | (simp; done) | (simp; omega) | exact Below.size (by assumption) | exact Nat.le_trans (Below.size (by assumption)) (by simp)))))
end Go.Proofs.YtmcibcechffppaaGreat

namespace Go.Proofs.YtmcibcechffppaaGreat
open Go.RowKit
set_option maxRecDepth 100000

/-- A small schema, edits, weights and values for it. -/
def cmB (S : List (ByteArray × Int)) (M : List (List Int)) (W V : List Int) : Bool := smB S M && wgB S W && fitB S V
theorem cm_no1 {S : List (ByteArray × Int)} {M : List (List Int)} {W V : List Int} (h : smB S M = false) : cmB S M W V = false := by unfold cmB; rw [h]; rfl
theorem cm_no2 {S : List (ByteArray × Int)} {M : List (List Int)} {W V : List Int} (h : wgB S W = false) : cmB S M W V = false := by unfold cmB; rw [h, Bool.and_false]; rfl
theorem cm_no3 {S : List (ByteArray × Int)} {M : List (List Int)} {W V : List Int} (h : fitB S V = false) : cmB S M W V = false := by unfold cmB; rw [h, Bool.and_false]
theorem cm_yes {S : List (ByteArray × Int)} {M : List (List Int)} {W V : List Int} (h1 : smB S M = true) (h2 : wgB S W = true) (h3 : fitB S V = true) : cmB S M W V = true := by unfold cmB; rw [h1, h2, h3]; rfl
theorem cm_get {S : List (ByteArray × Int)} {M : List (List Int)} {W V : List Int} (h : cmB S M W V = true) : smB S M = true ∧ wgB S W = true ∧ fitB S V = true := by
  unfold cmB at h
  rw [Bool.and_eq_true, Bool.and_eq_true] at h
  exact ⟨h.1.1, h.1.2, h.2⟩
set_option maxHeartbeats 1000000 in
theorem iInput_any (x y z u : Option Addr) (c1 c2 c3 c4 : Nat) (S : List (ByteArray × Int)) (Q : List PR) (W V : List Int) (w : World) (hS : SIn w x c1 S) (hQ : EIn w y Q) (hW : IIn w z W) (hV : IIn w u V) :
    Calls Tryz.prog 43 #[.slice x S.length c1, .slice y Q.length c2, .slice z W.length c3, .slice u V.length c4] w fun e w' => e = .returned (.bool (cmB S (eM Q) W V)) ∧ Below w.heap.size w w' := by
  have hSh := Lib.hid hS
  have hQh := Lib.hid hQ
  have hWh := Lib.hid hW
  have hVh := Lib.hid hV
  have hm := hS.1
  clear hS hQ hW hV
  go_enter Tryz.func43, Tryz.ntmps43
  go_wp2_with fail
  refine (eSmall_any _ _ _ _ S Q _ (hSh.out.below (by exact (by repeat (first | exact Below.refl _ _ | assumption | refine Below.drew ?_ | refine below_drewN ?_ _ | refine Below.alloc' ?_ _ | (refine Below.setCell ?_ (by first | omega | (simp; done) | (simp; omega) | exact Below.size (by assumption) | exact Nat.le_trans (Below.size (by assumption)) (by simp)) _) | (refine Below.via' ?_ (by assumption)) | (refine Below.alloc ?_ (by first | omega | (simp; done) | (simp; omega) | exact Below.size (by assumption) | exact Nat.le_trans (Below.size (by assumption)) (by simp)) _) | (refine Below.via ?_ (by assumption) (by first | omega | (simp; done) | (simp; omega) | exact Below.size (by assumption) | exact Nat.le_trans (Below.size (by assumption)) (by simp))))))) (hQh.out.below (by exact (by repeat (first | exact Below.refl _ _ | assumption | refine Below.drew ?_ | refine below_drewN ?_ _ | refine Below.alloc' ?_ _ | (refine Below.setCell ?_ (by first | omega | (simp; done) | (simp; omega) | exact Below.size (by assumption) | exact Nat.le_trans (Below.size (by assumption)) (by simp)) _) | (refine Below.via' ?_ (by assumption)) | (refine Below.alloc ?_ (by first | omega | (simp; done) | (simp; omega) | exact Below.size (by assumption) | exact Nat.le_trans (Below.size (by assumption)) (by simp)) _) | (refine Below.via ?_ (by assumption) (by first | omega | (simp; done) | (simp; omega) | exact Below.size (by assumption) | exact Nat.le_trans (Below.size (by assumption)) (by simp)))))))).mono ?_
  rintro e w1 ⟨rfl, hb1⟩
  cases he : smB S (eM Q)
  · have hv := Lib.hid (cm_no1 (W := W) (V := V) he)
    go_wp2
    go_ret
    exact ⟨ret_bool hv.out.symm, (by repeat (first | exact Below.refl _ _ | assumption | refine Below.drew ?_ | refine below_drewN ?_ _ | refine Below.alloc' ?_ _ | (refine Below.setCell ?_ (by first | omega | (simp; done) | (simp; omega) | exact Below.size (by assumption) | exact Nat.le_trans (Below.size (by assumption)) (by simp)) _) | (refine Below.via' ?_ (by assumption)) | (refine Below.alloc ?_ (by first | omega | (simp; done) | (simp; omega) | exact Below.size (by assumption) | exact Nat.le_trans (Below.size (by assumption)) (by simp)) _) | (refine Below.via ?_ (by assumption) (by first | omega | (simp; done) | (simp; omega) | exact Below.size (by assumption) | exact Nat.le_trans (Below.size (by assumption)) (by simp)))))⟩
  have hsmh := Lib.hid he
  have hsh := Lib.hid (el_get (sm_get he).1).1
  clear he
  go_wp2_with fail
  refine (iWeights_any _ _ _ _ S W _ (hWh.out.below (by exact (by repeat (first | exact Below.refl _ _ | assumption | refine Below.drew ?_ | refine below_drewN ?_ _ | refine Below.alloc' ?_ _ | (refine Below.setCell ?_ (by first | omega | (simp; done) | (simp; omega) | exact Below.size (by assumption) | exact Nat.le_trans (Below.size (by assumption)) (by simp)) _) | (refine Below.via' ?_ (by assumption)) | (refine Below.alloc ?_ (by first | omega | (simp; done) | (simp; omega) | exact Below.size (by assumption) | exact Nat.le_trans (Below.size (by assumption)) (by simp)) _) | (refine Below.via ?_ (by assumption) (by first | omega | (simp; done) | (simp; omega) | exact Below.size (by assumption) | exact Nat.le_trans (Below.size (by assumption)) (by simp)))))))).mono ?_
  rintro e w2 ⟨rfl, hb2⟩
  cases hg : wgB S W
  · have hv := Lib.hid (cm_no2 (M := eM Q) (V := V) hg)
    go_wp2
    go_ret
    exact ⟨ret_bool hv.out.symm, (by repeat (first | exact Below.refl _ _ | assumption | refine Below.drew ?_ | refine below_drewN ?_ _ | refine Below.alloc' ?_ _ | (refine Below.setCell ?_ (by first | omega | (simp; done) | (simp; omega) | exact Below.size (by assumption) | exact Nat.le_trans (Below.size (by assumption)) (by simp)) _) | (refine Below.via' ?_ (by assumption)) | (refine Below.alloc ?_ (by first | omega | (simp; done) | (simp; omega) | exact Below.size (by assumption) | exact Nat.le_trans (Below.size (by assumption)) (by simp)) _) | (refine Below.via ?_ (by assumption) (by first | omega | (simp; done) | (simp; omega) | exact Below.size (by assumption) | exact Nat.le_trans (Below.size (by assumption)) (by simp)))))⟩
  have hgh := Lib.hid hg
  clear hg
  go_wp2_with fail
  refine (sFits_any _ _ _ _ S V _ hsh.out hm (hSh.out.rd.below (by exact (by repeat (first | exact Below.refl _ _ | assumption | refine Below.drew ?_ | refine below_drewN ?_ _ | refine Below.alloc' ?_ _ | (refine Below.setCell ?_ (by first | omega | (simp; done) | (simp; omega) | exact Below.size (by assumption) | exact Nat.le_trans (Below.size (by assumption)) (by simp)) _) | (refine Below.via' ?_ (by assumption)) | (refine Below.alloc ?_ (by first | omega | (simp; done) | (simp; omega) | exact Below.size (by assumption) | exact Nat.le_trans (Below.size (by assumption)) (by simp)) _) | (refine Below.via ?_ (by assumption) (by first | omega | (simp; done) | (simp; omega) | exact Below.size (by assumption) | exact Nat.le_trans (Below.size (by assumption)) (by simp))))))) (hVh.out.below (by exact (by repeat (first | exact Below.refl _ _ | assumption | refine Below.drew ?_ | refine below_drewN ?_ _ | refine Below.alloc' ?_ _ | (refine Below.setCell ?_ (by first | omega | (simp; done) | (simp; omega) | exact Below.size (by assumption) | exact Nat.le_trans (Below.size (by assumption)) (by simp)) _) | (refine Below.via' ?_ (by assumption)) | (refine Below.alloc ?_ (by first | omega | (simp; done) | (simp; omega) | exact Below.size (by assumption) | exact Nat.le_trans (Below.size (by assumption)) (by simp)) _) | (refine Below.via ?_ (by assumption) (by first | omega | (simp; done) | (simp; omega) | exact Below.size (by assumption) | exact Nat.le_trans (Below.size (by assumption)) (by simp)))))))).mono ?_
  rintro e w3 ⟨rfl, hb3⟩
  have hv : Hid (cmB S (eM Q) W V = fitB S V) := by unfold Hid cmB; rw [hsmh.out, hgh.out]; rfl
  go_wp2
  go_ret
  exact ⟨ret_bool hv.out.symm, (by repeat (first | exact Below.refl _ _ | assumption | refine Below.drew ?_ | refine below_drewN ?_ _ | refine Below.alloc' ?_ _ | (refine Below.setCell ?_ (by first | omega | (simp; done) | (simp; omega) | exact Below.size (by assumption) | exact Nat.le_trans (Below.size (by assumption)) (by simp)) _) | (refine Below.via' ?_ (by assumption)) | (refine Below.alloc ?_ (by first | omega | (simp; done) | (simp; omega) | exact Below.size (by assumption) | exact Nat.le_trans (Below.size (by assumption)) (by simp)) _) | (refine Below.via ?_ (by assumption) (by first | omega | (simp; done) | (simp; omega) | exact Below.size (by assumption) | exact Nat.le_trans (Below.size (by assumption)) (by simp)))))⟩
set_option maxHeartbeats 1000000 in
theorem canBeMended_any (x y z u : Option Addr) (c1 c2 c3 c4 : Nat) (S : List (ByteArray × Int)) (Q : List PR) (W V : List Int) (w : World) (hS : SIn w x c1 S) (hQ : EIn w y Q) (hW : IIn w z W) (hV : IIn w u V) :
    Calls Tryz.prog 47 #[.slice x S.length c1, .slice y Q.length c2, .slice z W.length c3, .slice u V.length c4] w fun e w' => e = .returned (.bool (cmB S (eM Q) W V)) ∧ Below w.heap.size w w' := by
  have hSh := Lib.hid hS
  have hQh := Lib.hid hQ
  have hWh := Lib.hid hW
  have hVh := Lib.hid hV
  have hm := hS.1
  clear hS hQ hW hV
  go_enter Tryz.func47, Tryz.ntmps47
  go_wp2_with fail
  refine (isSmall_any _ _ _ _ (hSh.out.below (by exact (by repeat (first | exact Below.refl _ _ | assumption | refine Below.drew ?_ | refine below_drewN ?_ _ | refine Below.alloc' ?_ _ | (refine Below.setCell ?_ (by first | omega | (simp; done) | (simp; omega) | exact Below.size (by assumption) | exact Nat.le_trans (Below.size (by assumption)) (by simp)) _) | (refine Below.via' ?_ (by assumption)) | (refine Below.alloc ?_ (by first | omega | (simp; done) | (simp; omega) | exact Below.size (by assumption) | exact Nat.le_trans (Below.size (by assumption)) (by simp)) _) | (refine Below.via ?_ (by assumption) (by first | omega | (simp; done) | (simp; omega) | exact Below.size (by assumption) | exact Nat.le_trans (Below.size (by assumption)) (by simp)))))))).mono ?_
  rintro e w0 ⟨rfl, hb0⟩
  cases hs : smS S
  · have hv := Lib.hid (cm_no1 (W := W) (V := V) (sm_no3 (M := eM Q) hs))
    go_wp2
    go_ret
    exact ⟨ret_bool hv.out.symm, (by repeat (first | exact Below.refl _ _ | assumption | refine Below.drew ?_ | refine below_drewN ?_ _ | refine Below.alloc' ?_ _ | (refine Below.setCell ?_ (by first | omega | (simp; done) | (simp; omega) | exact Below.size (by assumption) | exact Nat.le_trans (Below.size (by assumption)) (by simp)) _) | (refine Below.via' ?_ (by assumption)) | (refine Below.alloc ?_ (by first | omega | (simp; done) | (simp; omega) | exact Below.size (by assumption) | exact Nat.le_trans (Below.size (by assumption)) (by simp)) _) | (refine Below.via ?_ (by assumption) (by first | omega | (simp; done) | (simp; omega) | exact Below.size (by assumption) | exact Nat.le_trans (Below.size (by assumption)) (by simp)))))⟩
  have hsh := Lib.hid (smS_get hs).1
  have hcn := Lib.hid (smS_get hs).2
  clear hs
  go_wp2_with fail
  refine (areEditsFor_any _ _ _ _ S Q _ hsh.out hm (hSh.out.rd.below (by exact (by repeat (first | exact Below.refl _ _ | assumption | refine Below.drew ?_ | refine below_drewN ?_ _ | refine Below.alloc' ?_ _ | (refine Below.setCell ?_ (by first | omega | (simp; done) | (simp; omega) | exact Below.size (by assumption) | exact Nat.le_trans (Below.size (by assumption)) (by simp)) _) | (refine Below.via' ?_ (by assumption)) | (refine Below.alloc ?_ (by first | omega | (simp; done) | (simp; omega) | exact Below.size (by assumption) | exact Nat.le_trans (Below.size (by assumption)) (by simp)) _) | (refine Below.via ?_ (by assumption) (by first | omega | (simp; done) | (simp; omega) | exact Below.size (by assumption) | exact Nat.le_trans (Below.size (by assumption)) (by simp))))))) (hQh.out.below (by exact (by repeat (first | exact Below.refl _ _ | assumption | refine Below.drew ?_ | refine below_drewN ?_ _ | refine Below.alloc' ?_ _ | (refine Below.setCell ?_ (by first | omega | (simp; done) | (simp; omega) | exact Below.size (by assumption) | exact Nat.le_trans (Below.size (by assumption)) (by simp)) _) | (refine Below.via' ?_ (by assumption)) | (refine Below.alloc ?_ (by first | omega | (simp; done) | (simp; omega) | exact Below.size (by assumption) | exact Nat.le_trans (Below.size (by assumption)) (by simp)) _) | (refine Below.via ?_ (by assumption) (by first | omega | (simp; done) | (simp; omega) | exact Below.size (by assumption) | exact Nat.le_trans (Below.size (by assumption)) (by simp)))))))).mono ?_
  rintro e w1 ⟨rfl, hb1⟩
  cases he : elB S (eM Q)
  · have hv := Lib.hid (cm_no1 (W := W) (V := V) (sm_no1 he))
    go_wp2
    go_ret
    exact ⟨ret_bool hv.out.symm, (by repeat (first | exact Below.refl _ _ | assumption | refine Below.drew ?_ | refine below_drewN ?_ _ | refine Below.alloc' ?_ _ | (refine Below.setCell ?_ (by first | omega | (simp; done) | (simp; omega) | exact Below.size (by assumption) | exact Nat.le_trans (Below.size (by assumption)) (by simp)) _) | (refine Below.via' ?_ (by assumption)) | (refine Below.alloc ?_ (by first | omega | (simp; done) | (simp; omega) | exact Below.size (by assumption) | exact Nat.le_trans (Below.size (by assumption)) (by simp)) _) | (refine Below.via ?_ (by assumption) (by first | omega | (simp; done) | (simp; omega) | exact Below.size (by assumption) | exact Nat.le_trans (Below.size (by assumption)) (by simp)))))⟩
  have hsmh := Lib.hid (sm_yes he hcn.out)
  clear he
  go_wp2_with fail
  refine (areWeights_any _ _ _ _ S W _ hm (hWh.out.below (by exact (by repeat (first | exact Below.refl _ _ | assumption | refine Below.drew ?_ | refine below_drewN ?_ _ | refine Below.alloc' ?_ _ | (refine Below.setCell ?_ (by first | omega | (simp; done) | (simp; omega) | exact Below.size (by assumption) | exact Nat.le_trans (Below.size (by assumption)) (by simp)) _) | (refine Below.via' ?_ (by assumption)) | (refine Below.alloc ?_ (by first | omega | (simp; done) | (simp; omega) | exact Below.size (by assumption) | exact Nat.le_trans (Below.size (by assumption)) (by simp)) _) | (refine Below.via ?_ (by assumption) (by first | omega | (simp; done) | (simp; omega) | exact Below.size (by assumption) | exact Nat.le_trans (Below.size (by assumption)) (by simp)))))))).mono ?_
  rintro e w2 ⟨rfl, hb2⟩
  cases hg : wgB S W
  · have hv := Lib.hid (cm_no2 (M := eM Q) (V := V) hg)
    go_wp2
    go_ret
    exact ⟨ret_bool hv.out.symm, (by repeat (first | exact Below.refl _ _ | assumption | refine Below.drew ?_ | refine below_drewN ?_ _ | refine Below.alloc' ?_ _ | (refine Below.setCell ?_ (by first | omega | (simp; done) | (simp; omega) | exact Below.size (by assumption) | exact Nat.le_trans (Below.size (by assumption)) (by simp)) _) | (refine Below.via' ?_ (by assumption)) | (refine Below.alloc ?_ (by first | omega | (simp; done) | (simp; omega) | exact Below.size (by assumption) | exact Nat.le_trans (Below.size (by assumption)) (by simp)) _) | (refine Below.via ?_ (by assumption) (by first | omega | (simp; done) | (simp; omega) | exact Below.size (by assumption) | exact Nat.le_trans (Below.size (by assumption)) (by simp)))))⟩
  have hgh := Lib.hid hg
  clear hg
  go_wp2_with fail
  refine (areValues_any _ _ _ _ S V _ hsh.out hm (hSh.out.rd.below (by exact (by repeat (first | exact Below.refl _ _ | assumption | refine Below.drew ?_ | refine below_drewN ?_ _ | refine Below.alloc' ?_ _ | (refine Below.setCell ?_ (by first | omega | (simp; done) | (simp; omega) | exact Below.size (by assumption) | exact Nat.le_trans (Below.size (by assumption)) (by simp)) _) | (refine Below.via' ?_ (by assumption)) | (refine Below.alloc ?_ (by first | omega | (simp; done) | (simp; omega) | exact Below.size (by assumption) | exact Nat.le_trans (Below.size (by assumption)) (by simp)) _) | (refine Below.via ?_ (by assumption) (by first | omega | (simp; done) | (simp; omega) | exact Below.size (by assumption) | exact Nat.le_trans (Below.size (by assumption)) (by simp))))))) (hVh.out.below (by exact (by repeat (first | exact Below.refl _ _ | assumption | refine Below.drew ?_ | refine below_drewN ?_ _ | refine Below.alloc' ?_ _ | (refine Below.setCell ?_ (by first | omega | (simp; done) | (simp; omega) | exact Below.size (by assumption) | exact Nat.le_trans (Below.size (by assumption)) (by simp)) _) | (refine Below.via' ?_ (by assumption)) | (refine Below.alloc ?_ (by first | omega | (simp; done) | (simp; omega) | exact Below.size (by assumption) | exact Nat.le_trans (Below.size (by assumption)) (by simp)) _) | (refine Below.via ?_ (by assumption) (by first | omega | (simp; done) | (simp; omega) | exact Below.size (by assumption) | exact Nat.le_trans (Below.size (by assumption)) (by simp)))))))).mono ?_
  rintro e w3 ⟨rfl, hb3⟩
  have hv : Hid (cmB S (eM Q) W V = fitB S V) := by unfold Hid cmB; rw [hsmh.out, hgh.out]; rfl
  go_wp2
  go_ret
  exact ⟨ret_bool hv.out.symm, (by repeat (first | exact Below.refl _ _ | assumption | refine Below.drew ?_ | refine below_drewN ?_ _ | refine Below.alloc' ?_ _ | (refine Below.setCell ?_ (by first | omega | (simp; done) | (simp; omega) | exact Below.size (by assumption) | exact Nat.le_trans (Below.size (by assumption)) (by simp)) _) | (refine Below.via' ?_ (by assumption)) | (refine Below.alloc ?_ (by first | omega | (simp; done) | (simp; omega) | exact Below.size (by assumption) | exact Nat.le_trans (Below.size (by assumption)) (by simp)) _) | (refine Below.via ?_ (by assumption) (by first | omega | (simp; done) | (simp; omega) | exact Below.size (by assumption) | exact Nat.le_trans (Below.size (by assumption)) (by simp)))))⟩

theorem retN_at {n m : Int} {b d : Bool} {w w' : World} (hd : d = b) (hn : n = nIf b m) (h : Below w.heap.size w w') : Ending.returned (.tuple #[.int .i64 n, .bool d]) = .returned (.tuple #[.int .i64 (nIf b m), .bool b]) ∧ Below w.heap.size w w' := ⟨by rw [hd, hn], h⟩
/-- The best donor among the first records. -/
def ndS (M : List (List Int)) (W V : List Int) (o : Option (Nat × Int)) (i : Nat) (X : List Int) : Option (Nat × Int) :=
  if faB M X = true then o else match o with
    | none => some (i, swZ W (dvL V X))
    | some (j, b) => if swZ W (dvL V X) < b then some (i, swZ W (dvL V X)) else some (j, b)
def ndUp (M : List (List Int)) (W V : List Int) (D : List (List Int)) : Nat → Option (Nat × Int)
  | 0 => none
  | i + 1 => match D[i]? with
    | none => ndUp M W V D i
    | some X => ndS M W V (ndUp M W V D i) i X
theorem nd_step {M : List (List Int)} {W V : List Int} {D : List (List Int)} {i : Nat} {X : List Int} (h : D[i]? = some X) : ndUp M W V D (i + 1) = ndS M W V (ndUp M W V D i) i X := by
  show (match D[i]? with | none => ndUp M W V D i | some X => ndS M W V (ndUp M W V D i) i X) = _
  rw [h]
theorem ndS_fails {M : List (List Int)} {W V X : List Int} {o : Option (Nat × Int)} {i : Nat} (h : faB M X = true) : ndS M W V o i X = o := if_pos h
theorem ndS_first {M : List (List Int)} {W V X : List Int} {i : Nat} (h : faB M X = false) : ndS M W V none i X = some (i, swZ W (dvL V X)) := if_neg (by rw [h]; exact Bool.false_ne_true)
theorem ndS_less {M : List (List Int)} {W V X : List Int} {i j : Nat} {b : Int} (h : faB M X = false) (k : swZ W (dvL V X) < b) : ndS M W V (some (j, b)) i X = some (i, swZ W (dvL V X)) := by
  unfold ndS
  rw [if_neg (by rw [h]; exact Bool.false_ne_true)]
  exact if_pos k
theorem ndS_keep {M : List (List Int)} {W V X : List Int} {i j : Nat} {b : Int} (h : faB M X = false) (k : ¬ swZ W (dvL V X) < b) : ndS M W V (some (j, b)) i X = some (j, b) := by
  unfold ndS
  rw [if_neg (by rw [h]; exact Bool.false_ne_true)]
  exact if_neg k
theorem dvB_symm (A B : List Int) (i : Nat) : dvB A B i = dvB B A i := by
  unfold dvB
  congr 1
  exact decide_eq_decide.2 ⟨Eq.symm, Eq.symm⟩
theorem dvL_symm {A B : List Int} (h : A.length = B.length) : dvL A B = dvL B A := by
  unfold dvL
  rw [h]
  congr 1
  funext i
  exact dvB_symm A B i
/-- What the best donor's place, cost and presence look like. -/
def ndI (o : Option (Nat × Int)) : Int := match o with | some (j, _) => (j : Int) | none => 0
def ndJ (o : Option (Nat × Int)) : Int := match o with | some (j, _) => (j : Int) | none => -1
def ndC (o : Option (Nat × Int)) : Int := match o with | some (_, b) => b | none => 0
theorem nd_lt (M : List (List Int)) (W V : List Int) (D : List (List Int)) : ∀ n : Nat, ∀ j b, ndUp M W V D n = some (j, b) → j < n
  | 0, j, b, h => by cases h
  | n + 1, j, b, h => by
    have ih := nd_lt M W V D n
    have e : ndUp M W V D (n + 1) = match D[n]? with | none => ndUp M W V D n | some X => ndS M W V (ndUp M W V D n) n X := rfl
    rw [e] at h
    cases hD : D[n]? with
    | none => rw [hD] at h; have := ih j b h; omega
    | some X =>
      rw [hD] at h
      change ndS M W V (ndUp M W V D n) n X = some (j, b) at h
      cases hf : faB M X
      · cases ho : ndUp M W V D n with
        | none => rw [ho, ndS_first hf] at h; cases h; omega
        | some q =>
          obtain ⟨j0, b0⟩ := q
          rw [ho] at h
          by_cases hk : swZ W (dvL V X) < b0
          · rw [ndS_less hf hk] at h; cases h; omega
          · rw [ndS_keep hf hk] at h; cases h; have := ih j b ho; omega
      · rw [ndS_fails hf] at h; have := ih j b h; omega
/-- The arguments, and the answer. -/
def ndG (S : List (ByteArray × Int)) (M : List (List Int)) (W : List Int) (R : List RV) (V : List Int) : Bool := cmB S M W V && dokB S R
def ndO (M : List (List Int)) (W : List Int) (R : List RV) (V : List Int) : Option (Nat × Int) := ndUp M W V (dV R) (dV R).length
def neB (S : List (ByteArray × Int)) (M : List (List Int)) (W : List Int) (R : List RV) (V : List Int) : Bool := ndG S M W R V && (ndO M W R V).isSome
theorem nd_no1 {S : List (ByteArray × Int)} {M : List (List Int)} {W : List Int} {R : List RV} {V : List Int} (h : cmB S M W V = false) : neB S M W R V = false := by unfold neB ndG; rw [h]; rfl
theorem nd_no2 {S : List (ByteArray × Int)} {M : List (List Int)} {W : List Int} {R : List RV} {V : List Int} (h : dokB S R = false) : neB S M W R V = false := by unfold neB ndG; rw [h, Bool.and_false]; rfl
theorem nd_yes {S : List (ByteArray × Int)} {M : List (List Int)} {W : List Int} {R : List RV} {V : List Int} (h1 : cmB S M W V = true) (h2 : dokB S R = true) : neB S M W R V = (ndO M W R V).isSome := by unfold neB ndG; rw [h1, h2]; rfl
end Go.Proofs.YtmcibcechffppaaGreat

namespace Go.Proofs.YtmcibcechffppaaGreat
open Go.RowKit
set_option maxRecDepth 100000

/-- Two lists differ in no variable outside of a set. -/
def doB (I V X : List Int) : Bool := (dvL V X).all fun v => I.contains v
theorem do_hit {I V X : List Int} {i : Nat} {v : Int} (h : (dvL V X)[i]? = some v) (hn : I.contains v = false) : doB I V X = false := by
  unfold doB
  rw [List.all_eq_false]
  exact ⟨v, List.mem_of_getElem? h, by rw [hn]; exact Bool.false_ne_true⟩
theorem do_all {I V X : List Int} (h : ∀ (j : Nat) (v : Int), (dvL V X)[j]? = some v → I.contains v = true) : doB I V X = true := by
  unfold doB
  rw [List.all_eq_true]
  intro v hv
  obtain ⟨j, hj, e⟩ := List.getElem_of_mem hv
  exact h j v (by rw [List.getElem?_eq_getElem hj, e])
theorem pk_has {p : Nat → Bool} {n i : Nat} (hi : i < n) (hp : p i = true) : (i : Int) ∈ pkUp p n := by
  unfold pkUp
  exact List.mem_map.2 ⟨i, List.mem_filter.2 ⟨List.mem_range.2 hi, hp⟩, rfl⟩
theorem dv_mem {V X : List Int} {i : Nat} {a d : Int} (h1 : V[i]? = some a) (h2 : X[i]? = some d) : ((i : Int) ∈ dvL V X) ↔ a ≠ d := by
  have hb : dvB V X i = !decide (a = d) := by
    unfold dvB
    rw [h1, h2]
    simp
  constructor
  · intro hm hne
    obtain ⟨k, e, hk, hp⟩ := pkUp_mem hm
    have : k = i := by omega
    subst this
    rw [hb, hne] at hp
    simp at hp
  · intro hne
    have hi := (List.getElem?_eq_some_iff.1 h1).1
    refine pk_has hi ?_
    rw [hb]
    simp [hne]
theorem do_one {I V X : List Int} {i : Nat} {a d : Int} (h1 : V[i]? = some a) (h2 : X[i]? = some d) (hne : a ≠ d) (hn : I.contains (i : Int) = false) : doB I V X = false := by
  obtain ⟨j, hj, e⟩ := List.getElem_of_mem ((dv_mem h1 h2).2 hne)
  exact do_hit (i := j) (by rw [List.getElem?_eq_getElem hj, e]) hn
theorem do_none {I V X : List Int} (hl : V.length = X.length) (h : ∀ (i : Nat) (a d : Int), V[i]? = some a → X[i]? = some d → a = d ∨ I.contains (i : Int) = true) : doB I V X = true := by
  refine do_all fun j v hv => ?_
  obtain ⟨k, rfl, hk, hp⟩ := pkUp_mem (List.mem_of_getElem? hv)
  have h1 : V[k]? = some V[k] := List.getElem?_eq_getElem hk
  have h2 : X[k]? = some X[k] := List.getElem?_eq_getElem (by omega)
  rcases h k _ _ h1 h2 with he | hc
  · unfold dvB at hp
    rw [h1, h2, he] at hp
    simp at hp
  · exact hc
/-- Do the mended values do? -/
def mdA (S : List (ByteArray × Int)) (M : List (List Int)) (I V X : List Int) : Bool := fitB S X && !faB M X && doB I V X
def mdB (S : List (ByteArray × Int)) (M : List (List Int)) (I V X : List Int) : Bool := cgG S M I V && mdA S M I V X
theorem md_no {S : List (ByteArray × Int)} {M : List (List Int)} {I V X : List Int} (h : cgG S M I V = false) : mdB S M I V X = false := by unfold mdB; rw [h]; rfl
theorem md_ok {S : List (ByteArray × Int)} {M : List (List Int)} {I V X : List Int} {b : Bool} (h : cgG S M I V = true) (k : mdA S M I V X = b) : mdB S M I V X = b := by unfold mdB; rw [h, k]; rfl
theorem ma_no1 {S : List (ByteArray × Int)} {M : List (List Int)} {I V X : List Int} (h : fitB S X = false) : mdA S M I V X = false := by unfold mdA; rw [h]; rfl
theorem ma_no2 {S : List (ByteArray × Int)} {M : List (List Int)} {I V X : List Int} (h : faB M X = true) : mdA S M I V X = false := by unfold mdA; rw [h]; simp
theorem ma_eq {S : List (ByteArray × Int)} {M : List (List Int)} {I V X : List Int} (h : fitB S X = true) (k : faB M X = false) : mdA S M I V X = doB I V X := by unfold mdA; rw [h, k]; simp
theorem ret_two {a b c d : Bool} (h : a = c) (k : b = d) : Ending.returned (.tuple #[.bool a, .bool b]) = .returned (.tuple #[.bool c, .bool d]) := by rw [h, k]

set_option maxHeartbeats 1000000 in
theorem differOnly_any (x y z : Option Addr) (c0 c1 c2 : Nat) (I V X : List Int) (w : World) (hl : V.length = X.length) (h6 : V.length ≤ 1000) (hI : IIn w x I) (hV : IIn w y V) (hX : IIn w z X) :
    Calls Tryz.prog 85 #[.slice x I.length c0, .slice y V.length c1, .slice z X.length c2] w fun e w' => e = .returned (.bool (doB I V X)) ∧ Below w.heap.size w w' := by
  have hIh := Lib.hid hI
  have hVh := Lib.hid hV
  have hXh := Lib.hid hX
  have hlh := Lib.hid hl
  clear hI hV hX hl
  go_enter Tryz.func85, Tryz.ntmps85
  go_wp2_with fail
  refine (differing_any _ _ _ _ V X _ hlh.out h6 (hVh.out.below (by exact (by repeat (first | exact Below.refl _ _ | assumption | refine Below.drew ?_ | refine below_drewN ?_ _ | refine Below.alloc' ?_ _ | (refine Below.setCell ?_ (by first | omega | (simp; done) | (simp; omega) | exact Below.size (by assumption) | exact Nat.le_trans (Below.size (by assumption)) (by simp)) _) | (refine Below.via' ?_ (by assumption)) | (refine Below.alloc ?_ (by first | omega | (simp; done) | (simp; omega) | exact Below.size (by assumption) | exact Nat.le_trans (Below.size (by assumption)) (by simp)) _) | (refine Below.via ?_ (by assumption) (by first | omega | (simp; done) | (simp; omega) | exact Below.size (by assumption) | exact Nat.le_trans (Below.size (by assumption)) (by simp))))))) (hXh.out.below (by exact (by repeat (first | exact Below.refl _ _ | assumption | refine Below.drew ?_ | refine below_drewN ?_ _ | refine Below.alloc' ?_ _ | (refine Below.setCell ?_ (by first | omega | (simp; done) | (simp; omega) | exact Below.size (by assumption) | exact Nat.le_trans (Below.size (by assumption)) (by simp)) _) | (refine Below.via' ?_ (by assumption)) | (refine Below.alloc ?_ (by first | omega | (simp; done) | (simp; omega) | exact Below.size (by assumption) | exact Nat.le_trans (Below.size (by assumption)) (by simp)) _) | (refine Below.via ?_ (by assumption) (by first | omega | (simp; done) | (simp; omega) | exact Below.size (by assumption) | exact Nat.le_trans (Below.size (by assumption)) (by simp)))))))).mono ?_
  rintro e w1 ⟨u1, rfl, ho1, hb1⟩
  obtain ⟨x1, n1, rfl, -, -⟩ := (OwR.of ho1).form
  have hd1 := Lib.hid (pk_iin h6 (Rd.of_own ho1))
  have hdl := dvL_len V X
  clear ho1
  go_wp2
  go_loopw [13] (fun c wr => ∃ i : Nat, i ≤ (dvL V X).length ∧ c = .int .i64 i ∧ Hid (∀ j, j < i → ∀ v, (dvL V X)[j]? = some v → I.contains v = true) ∧ w1 = wr) (fun c _ => (dvL V X).length - (intOf c).toNat)
  case atStart => exact ⟨0, by omega, rfl, (fun j hj => absurd hj (by omega)), rfl⟩
  case round =>
    obtain ⟨i, hi, rfl, hall, rfl⟩ := hrel
    by_cases hlt : i < (dvL V X).length
    · obtain ⟨bl, off, v, rfl, hbl, hLi, hc0⟩ := hd1.out.2.2.int hlt
      have hLih : Hid ((dvL V X)[i]? = some v) := hLi
      have hlt' : (i : Int) < ((dvL V X).length : Int) := by omega
      have hi0 : (0 : Int) ≤ (i : Int) := by omega
      clear hLi
      go_wp2_with fail
      refine (contains_any _ _ I v _ (hIh.out.below (by exact (by repeat (first | exact Below.refl _ _ | assumption | refine Below.drew ?_ | refine below_drewN ?_ _ | refine Below.alloc' ?_ _ | (refine Below.setCell ?_ (by first | omega | (simp; done) | (simp; omega) | exact Below.size (by assumption) | exact Nat.le_trans (Below.size (by assumption)) (by simp)) _) | (refine Below.via' ?_ (by assumption)) | (refine Below.alloc ?_ (by first | omega | (simp; done) | (simp; omega) | exact Below.size (by assumption) | exact Nat.le_trans (Below.size (by assumption)) (by simp)) _) | (refine Below.via ?_ (by assumption) (by first | omega | (simp; done) | (simp; omega) | exact Below.size (by assumption) | exact Nat.le_trans (Below.size (by assumption)) (by simp)))))))).mono ?_
      rintro e w2 ⟨rfl, rfl⟩
      cases hc : I.contains v
      · have hv := Lib.hid (do_hit hLih.out hc)
        replace hc := Lib.hid hc
        go_wp2
        go_ret
        exact ⟨ret_bool hv.out.symm, (by repeat (first | exact Below.refl _ _ | assumption | refine Below.drew ?_ | refine below_drewN ?_ _ | refine Below.alloc' ?_ _ | (refine Below.setCell ?_ (by first | omega | (simp; done) | (simp; omega) | exact Below.size (by assumption) | exact Nat.le_trans (Below.size (by assumption)) (by simp)) _) | (refine Below.via' ?_ (by assumption)) | (refine Below.alloc ?_ (by first | omega | (simp; done) | (simp; omega) | exact Below.size (by assumption) | exact Nat.le_trans (Below.size (by assumption)) (by simp)) _) | (refine Below.via ?_ (by assumption) (by first | omega | (simp; done) | (simp; omega) | exact Below.size (by assumption) | exact Nat.le_trans (Below.size (by assumption)) (by simp)))))⟩
      · have hch := Lib.hid hc
        clear hc
        go_wp2
        go_roundw
        case rel =>
          refine ⟨i + 1, by omega, by go_num, fun j hj u hu => ?_, by first | rfl | trivial⟩
          rcases Nat.lt_or_ge j i with hj2 | hj2
          · exact hall.out j hj2 u hu
          · obtain rfl : j = i := by omega
            rw [hLih.out] at hu
            cases hu
            exact hch.out
        case measure => simp [intOf]; omega
    · have hij : i = (dvL V X).length := by omega
      have hv : Hid (doB I V X = true) := do_all fun j v hv => hall.out j (by have := (List.getElem?_eq_some_iff.1 hv).1; omega) v hv
      subst hij
      clear hall
      go_wp2
      go_ret
      exact ⟨ret_bool hv.out.symm, (by repeat (first | exact Below.refl _ _ | assumption | refine Below.drew ?_ | refine below_drewN ?_ _ | refine Below.alloc' ?_ _ | (refine Below.setCell ?_ (by first | omega | (simp; done) | (simp; omega) | exact Below.size (by assumption) | exact Nat.le_trans (Below.size (by assumption)) (by simp)) _) | (refine Below.via' ?_ (by assumption)) | (refine Below.alloc ?_ (by first | omega | (simp; done) | (simp; omega) | exact Below.size (by assumption) | exact Nat.le_trans (Below.size (by assumption)) (by simp)) _) | (refine Below.via ?_ (by assumption) (by first | omega | (simp; done) | (simp; omega) | exact Below.size (by assumption) | exact Nat.le_trans (Below.size (by assumption)) (by simp)))))⟩
set_option maxHeartbeats 1000000 in
theorem iIMd_x (x y f z u : Option Addr) (c1 c2 c3 c4 c5 : Nat) (S : List (ByteArray × Int)) (Q : List PR) (I V X : List Int) (w : World) (hS : SIn w x c1 S) (hQ : EIn w y Q) (hI : IIn w f I) (hV : IIn w z V) (hX : IIn w u X) :
    Calls Tryz.prog 38 #[.slice x S.length c1, .slice y Q.length c2, .slice f I.length c3, .slice z V.length c4, .slice u X.length c5] w fun e w' => e = .returned (.tuple #[.bool (mdB S (eM Q) I V X), .bool (cgG S (eM Q) I V)]) ∧ Below w.heap.size w w' := by
  have hSh := Lib.hid hS
  have hQh := Lib.hid hQ
  have hIh := Lib.hid hI
  have hVh := Lib.hid hV
  have hXh := Lib.hid hX
  have hm := hS.1
  clear hS hQ hI hV hX
  go_enter Tryz.func38, Tryz.ntmps38
  go_wp2_with fail
  refine (isSmall_any _ _ _ _ (hSh.out.below (by exact (by repeat (first | exact Below.refl _ _ | assumption | refine Below.drew ?_ | refine below_drewN ?_ _ | refine Below.alloc' ?_ _ | (refine Below.setCell ?_ (by first | omega | (simp; done) | (simp; omega) | exact Below.size (by assumption) | exact Nat.le_trans (Below.size (by assumption)) (by simp)) _) | (refine Below.via' ?_ (by assumption)) | (refine Below.alloc ?_ (by first | omega | (simp; done) | (simp; omega) | exact Below.size (by assumption) | exact Nat.le_trans (Below.size (by assumption)) (by simp)) _) | (refine Below.via ?_ (by assumption) (by first | omega | (simp; done) | (simp; omega) | exact Below.size (by assumption) | exact Nat.le_trans (Below.size (by assumption)) (by simp)))))))).mono ?_
  rintro e w0 ⟨rfl, hb0⟩
  cases hs : smS S
  · have hv := Lib.hid (cg_no1 (F := I) (V := V) (sm_no3 (M := eM Q) hs))
    have hv2 := Lib.hid (md_no (X := X) hv.out)
    go_wp2
    go_ret2
    exact ⟨ret_two hv2.out.symm hv.out.symm, (by repeat (first | exact Below.refl _ _ | assumption | refine Below.drew ?_ | refine below_drewN ?_ _ | refine Below.alloc' ?_ _ | (refine Below.setCell ?_ (by first | omega | (simp; done) | (simp; omega) | exact Below.size (by assumption) | exact Nat.le_trans (Below.size (by assumption)) (by simp)) _) | (refine Below.via' ?_ (by assumption)) | (refine Below.alloc ?_ (by first | omega | (simp; done) | (simp; omega) | exact Below.size (by assumption) | exact Nat.le_trans (Below.size (by assumption)) (by simp)) _) | (refine Below.via ?_ (by assumption) (by first | omega | (simp; done) | (simp; omega) | exact Below.size (by assumption) | exact Nat.le_trans (Below.size (by assumption)) (by simp)))))⟩
  have hsh := Lib.hid (smS_get hs).1
  have hcn := Lib.hid (smS_get hs).2
  clear hs
  go_wp2_with fail
  refine (areEditsFor_any _ _ _ _ S Q _ hsh.out hm (hSh.out.rd.below (by exact (by repeat (first | exact Below.refl _ _ | assumption | refine Below.drew ?_ | refine below_drewN ?_ _ | refine Below.alloc' ?_ _ | (refine Below.setCell ?_ (by first | omega | (simp; done) | (simp; omega) | exact Below.size (by assumption) | exact Nat.le_trans (Below.size (by assumption)) (by simp)) _) | (refine Below.via' ?_ (by assumption)) | (refine Below.alloc ?_ (by first | omega | (simp; done) | (simp; omega) | exact Below.size (by assumption) | exact Nat.le_trans (Below.size (by assumption)) (by simp)) _) | (refine Below.via ?_ (by assumption) (by first | omega | (simp; done) | (simp; omega) | exact Below.size (by assumption) | exact Nat.le_trans (Below.size (by assumption)) (by simp))))))) (hQh.out.below (by exact (by repeat (first | exact Below.refl _ _ | assumption | refine Below.drew ?_ | refine below_drewN ?_ _ | refine Below.alloc' ?_ _ | (refine Below.setCell ?_ (by first | omega | (simp; done) | (simp; omega) | exact Below.size (by assumption) | exact Nat.le_trans (Below.size (by assumption)) (by simp)) _) | (refine Below.via' ?_ (by assumption)) | (refine Below.alloc ?_ (by first | omega | (simp; done) | (simp; omega) | exact Below.size (by assumption) | exact Nat.le_trans (Below.size (by assumption)) (by simp)) _) | (refine Below.via ?_ (by assumption) (by first | omega | (simp; done) | (simp; omega) | exact Below.size (by assumption) | exact Nat.le_trans (Below.size (by assumption)) (by simp)))))))).mono ?_
  rintro e w1 ⟨rfl, hb1⟩
  cases he : elB S (eM Q)
  · have hv := Lib.hid (cg_no1 (F := I) (V := V) (sm_no1 he))
    have hv2 := Lib.hid (md_no (X := X) hv.out)
    go_wp2
    go_ret2
    exact ⟨ret_two hv2.out.symm hv.out.symm, (by repeat (first | exact Below.refl _ _ | assumption | refine Below.drew ?_ | refine below_drewN ?_ _ | refine Below.alloc' ?_ _ | (refine Below.setCell ?_ (by first | omega | (simp; done) | (simp; omega) | exact Below.size (by assumption) | exact Nat.le_trans (Below.size (by assumption)) (by simp)) _) | (refine Below.via' ?_ (by assumption)) | (refine Below.alloc ?_ (by first | omega | (simp; done) | (simp; omega) | exact Below.size (by assumption) | exact Nat.le_trans (Below.size (by assumption)) (by simp)) _) | (refine Below.via ?_ (by assumption) (by first | omega | (simp; done) | (simp; omega) | exact Below.size (by assumption) | exact Nat.le_trans (Below.size (by assumption)) (by simp)))))⟩
  have hsmh := Lib.hid (sm_yes he hcn.out)
  obtain ⟨-, g2, g3⟩ := el_get he
  have hedh := Lib.hid g3
  clear he g2 g3
  go_wp2_with fail
  refine (areVariablesOf_any _ _ _ _ S I _ hm (hIh.out.below (by exact (by repeat (first | exact Below.refl _ _ | assumption | refine Below.drew ?_ | refine below_drewN ?_ _ | refine Below.alloc' ?_ _ | (refine Below.setCell ?_ (by first | omega | (simp; done) | (simp; omega) | exact Below.size (by assumption) | exact Nat.le_trans (Below.size (by assumption)) (by simp)) _) | (refine Below.via' ?_ (by assumption)) | (refine Below.alloc ?_ (by first | omega | (simp; done) | (simp; omega) | exact Below.size (by assumption) | exact Nat.le_trans (Below.size (by assumption)) (by simp)) _) | (refine Below.via ?_ (by assumption) (by first | omega | (simp; done) | (simp; omega) | exact Below.size (by assumption) | exact Nat.le_trans (Below.size (by assumption)) (by simp)))))))).mono ?_
  rintro e w2 ⟨rfl, rfl⟩
  cases hr : rsB S I
  · have hv := Lib.hid (cg_no2 (M := eM Q) (V := V) hr)
    have hv2 := Lib.hid (md_no (X := X) hv.out)
    go_wp2
    go_ret2
    exact ⟨ret_two hv2.out.symm hv.out.symm, (by repeat (first | exact Below.refl _ _ | assumption | refine Below.drew ?_ | refine below_drewN ?_ _ | refine Below.alloc' ?_ _ | (refine Below.setCell ?_ (by first | omega | (simp; done) | (simp; omega) | exact Below.size (by assumption) | exact Nat.le_trans (Below.size (by assumption)) (by simp)) _) | (refine Below.via' ?_ (by assumption)) | (refine Below.alloc ?_ (by first | omega | (simp; done) | (simp; omega) | exact Below.size (by assumption) | exact Nat.le_trans (Below.size (by assumption)) (by simp)) _) | (refine Below.via ?_ (by assumption) (by first | omega | (simp; done) | (simp; omega) | exact Below.size (by assumption) | exact Nat.le_trans (Below.size (by assumption)) (by simp)))))⟩
  have hrh := Lib.hid hr
  clear hr
  go_wp2_with fail
  refine (areValues_any _ _ _ _ S V _ hsh.out hm (hSh.out.rd.below (by exact (by repeat (first | exact Below.refl _ _ | assumption | refine Below.drew ?_ | refine below_drewN ?_ _ | refine Below.alloc' ?_ _ | (refine Below.setCell ?_ (by first | omega | (simp; done) | (simp; omega) | exact Below.size (by assumption) | exact Nat.le_trans (Below.size (by assumption)) (by simp)) _) | (refine Below.via' ?_ (by assumption)) | (refine Below.alloc ?_ (by first | omega | (simp; done) | (simp; omega) | exact Below.size (by assumption) | exact Nat.le_trans (Below.size (by assumption)) (by simp)) _) | (refine Below.via ?_ (by assumption) (by first | omega | (simp; done) | (simp; omega) | exact Below.size (by assumption) | exact Nat.le_trans (Below.size (by assumption)) (by simp))))))) (hVh.out.below (by exact (by repeat (first | exact Below.refl _ _ | assumption | refine Below.drew ?_ | refine below_drewN ?_ _ | refine Below.alloc' ?_ _ | (refine Below.setCell ?_ (by first | omega | (simp; done) | (simp; omega) | exact Below.size (by assumption) | exact Nat.le_trans (Below.size (by assumption)) (by simp)) _) | (refine Below.via' ?_ (by assumption)) | (refine Below.alloc ?_ (by first | omega | (simp; done) | (simp; omega) | exact Below.size (by assumption) | exact Nat.le_trans (Below.size (by assumption)) (by simp)) _) | (refine Below.via ?_ (by assumption) (by first | omega | (simp; done) | (simp; omega) | exact Below.size (by assumption) | exact Nat.le_trans (Below.size (by assumption)) (by simp)))))))).mono ?_
  rintro e w3 ⟨rfl, hb3⟩
  cases hf : fitB S V
  · have hv := Lib.hid (cg_no3 (M := eM Q) (F := I) hf)
    have hv2 := Lib.hid (md_no (X := X) hv.out)
    go_wp2
    go_ret2
    exact ⟨ret_two hv2.out.symm hv.out.symm, (by repeat (first | exact Below.refl _ _ | assumption | refine Below.drew ?_ | refine below_drewN ?_ _ | refine Below.alloc' ?_ _ | (refine Below.setCell ?_ (by first | omega | (simp; done) | (simp; omega) | exact Below.size (by assumption) | exact Nat.le_trans (Below.size (by assumption)) (by simp)) _) | (refine Below.via' ?_ (by assumption)) | (refine Below.alloc ?_ (by first | omega | (simp; done) | (simp; omega) | exact Below.size (by assumption) | exact Nat.le_trans (Below.size (by assumption)) (by simp)) _) | (refine Below.via ?_ (by assumption) (by first | omega | (simp; done) | (simp; omega) | exact Below.size (by assumption) | exact Nat.le_trans (Below.size (by assumption)) (by simp)))))⟩
  have hv := Lib.hid (cg_yes hsmh.out hrh.out hf)
  have hlV := Lib.hid (fit_len hf)
  clear hf
  go_wp2_with fail
  refine (areValues_any _ _ _ _ S X _ hsh.out hm (hSh.out.rd.below (by exact (by repeat (first | exact Below.refl _ _ | assumption | refine Below.drew ?_ | refine below_drewN ?_ _ | refine Below.alloc' ?_ _ | (refine Below.setCell ?_ (by first | omega | (simp; done) | (simp; omega) | exact Below.size (by assumption) | exact Nat.le_trans (Below.size (by assumption)) (by simp)) _) | (refine Below.via' ?_ (by assumption)) | (refine Below.alloc ?_ (by first | omega | (simp; done) | (simp; omega) | exact Below.size (by assumption) | exact Nat.le_trans (Below.size (by assumption)) (by simp)) _) | (refine Below.via ?_ (by assumption) (by first | omega | (simp; done) | (simp; omega) | exact Below.size (by assumption) | exact Nat.le_trans (Below.size (by assumption)) (by simp))))))) (hXh.out.below (by exact (by repeat (first | exact Below.refl _ _ | assumption | refine Below.drew ?_ | refine below_drewN ?_ _ | refine Below.alloc' ?_ _ | (refine Below.setCell ?_ (by first | omega | (simp; done) | (simp; omega) | exact Below.size (by assumption) | exact Nat.le_trans (Below.size (by assumption)) (by simp)) _) | (refine Below.via' ?_ (by assumption)) | (refine Below.alloc ?_ (by first | omega | (simp; done) | (simp; omega) | exact Below.size (by assumption) | exact Nat.le_trans (Below.size (by assumption)) (by simp)) _) | (refine Below.via ?_ (by assumption) (by first | omega | (simp; done) | (simp; omega) | exact Below.size (by assumption) | exact Nat.le_trans (Below.size (by assumption)) (by simp)))))))).mono ?_
  rintro e w4 ⟨rfl, hb4⟩
  cases hf : fitB S X
  · have hv2 := Lib.hid (md_ok (M := eM Q) (I := I) (V := V) hv.out (ma_no1 hf))
    go_wp2
    go_ret2
    exact ⟨ret_two hv2.out.symm hv.out.symm, (by repeat (first | exact Below.refl _ _ | assumption | refine Below.drew ?_ | refine below_drewN ?_ _ | refine Below.alloc' ?_ _ | (refine Below.setCell ?_ (by first | omega | (simp; done) | (simp; omega) | exact Below.size (by assumption) | exact Nat.le_trans (Below.size (by assumption)) (by simp)) _) | (refine Below.via' ?_ (by assumption)) | (refine Below.alloc ?_ (by first | omega | (simp; done) | (simp; omega) | exact Below.size (by assumption) | exact Nat.le_trans (Below.size (by assumption)) (by simp)) _) | (refine Below.via ?_ (by assumption) (by first | omega | (simp; done) | (simp; omega) | exact Below.size (by assumption) | exact Nat.le_trans (Below.size (by assumption)) (by simp)))))⟩
  have hfh := Lib.hid hf
  have hlX := Lib.hid (fit_len hf)
  clear hf
  have hfi := Lib.hid (fun E hE => fine_of hsh.out (hedh.out E hE) hfh.out)
  go_wp2_with fail
  refine (failsAny_any _ _ _ _ Q X _ hfi.out (hQh.out.below (by exact (by repeat (first | exact Below.refl _ _ | assumption | refine Below.drew ?_ | refine below_drewN ?_ _ | refine Below.alloc' ?_ _ | (refine Below.setCell ?_ (by first | omega | (simp; done) | (simp; omega) | exact Below.size (by assumption) | exact Nat.le_trans (Below.size (by assumption)) (by simp)) _) | (refine Below.via' ?_ (by assumption)) | (refine Below.alloc ?_ (by first | omega | (simp; done) | (simp; omega) | exact Below.size (by assumption) | exact Nat.le_trans (Below.size (by assumption)) (by simp)) _) | (refine Below.via ?_ (by assumption) (by first | omega | (simp; done) | (simp; omega) | exact Below.size (by assumption) | exact Nat.le_trans (Below.size (by assumption)) (by simp))))))) (hXh.out.below (by exact (by repeat (first | exact Below.refl _ _ | assumption | refine Below.drew ?_ | refine below_drewN ?_ _ | refine Below.alloc' ?_ _ | (refine Below.setCell ?_ (by first | omega | (simp; done) | (simp; omega) | exact Below.size (by assumption) | exact Nat.le_trans (Below.size (by assumption)) (by simp)) _) | (refine Below.via' ?_ (by assumption)) | (refine Below.alloc ?_ (by first | omega | (simp; done) | (simp; omega) | exact Below.size (by assumption) | exact Nat.le_trans (Below.size (by assumption)) (by simp)) _) | (refine Below.via ?_ (by assumption) (by first | omega | (simp; done) | (simp; omega) | exact Below.size (by assumption) | exact Nat.le_trans (Below.size (by assumption)) (by simp)))))))).mono ?_
  rintro e w5 ⟨rfl, hb5⟩
  cases hh : faB (eM Q) X
  · have hme := Lib.hid (md_ok hv.out (ma_eq (I := I) (V := V) hfh.out hh))
    clear hh
    go_wp2_with fail
    refine (differOnly_any _ _ _ _ _ _ I V X _ (by rw [hlV.out, hlX.out]) (by rw [hlV.out]; have := (schB_len hsh.out).2; omega) (hIh.out.below (by exact (by repeat (first | exact Below.refl _ _ | assumption | refine Below.drew ?_ | refine below_drewN ?_ _ | refine Below.alloc' ?_ _ | (refine Below.setCell ?_ (by first | omega | (simp; done) | (simp; omega) | exact Below.size (by assumption) | exact Nat.le_trans (Below.size (by assumption)) (by simp)) _) | (refine Below.via' ?_ (by assumption)) | (refine Below.alloc ?_ (by first | omega | (simp; done) | (simp; omega) | exact Below.size (by assumption) | exact Nat.le_trans (Below.size (by assumption)) (by simp)) _) | (refine Below.via ?_ (by assumption) (by first | omega | (simp; done) | (simp; omega) | exact Below.size (by assumption) | exact Nat.le_trans (Below.size (by assumption)) (by simp))))))) (hVh.out.below (by exact (by repeat (first | exact Below.refl _ _ | assumption | refine Below.drew ?_ | refine below_drewN ?_ _ | refine Below.alloc' ?_ _ | (refine Below.setCell ?_ (by first | omega | (simp; done) | (simp; omega) | exact Below.size (by assumption) | exact Nat.le_trans (Below.size (by assumption)) (by simp)) _) | (refine Below.via' ?_ (by assumption)) | (refine Below.alloc ?_ (by first | omega | (simp; done) | (simp; omega) | exact Below.size (by assumption) | exact Nat.le_trans (Below.size (by assumption)) (by simp)) _) | (refine Below.via ?_ (by assumption) (by first | omega | (simp; done) | (simp; omega) | exact Below.size (by assumption) | exact Nat.le_trans (Below.size (by assumption)) (by simp))))))) (hXh.out.below (by exact (by repeat (first | exact Below.refl _ _ | assumption | refine Below.drew ?_ | refine below_drewN ?_ _ | refine Below.alloc' ?_ _ | (refine Below.setCell ?_ (by first | omega | (simp; done) | (simp; omega) | exact Below.size (by assumption) | exact Nat.le_trans (Below.size (by assumption)) (by simp)) _) | (refine Below.via' ?_ (by assumption)) | (refine Below.alloc ?_ (by first | omega | (simp; done) | (simp; omega) | exact Below.size (by assumption) | exact Nat.le_trans (Below.size (by assumption)) (by simp)) _) | (refine Below.via ?_ (by assumption) (by first | omega | (simp; done) | (simp; omega) | exact Below.size (by assumption) | exact Nat.le_trans (Below.size (by assumption)) (by simp)))))))).mono ?_
    rintro e w6 ⟨rfl, hb6⟩
    go_wp2
    go_ret2
    exact ⟨ret_two hme.out.symm hv.out.symm, (by repeat (first | exact Below.refl _ _ | assumption | refine Below.drew ?_ | refine below_drewN ?_ _ | refine Below.alloc' ?_ _ | (refine Below.setCell ?_ (by first | omega | (simp; done) | (simp; omega) | exact Below.size (by assumption) | exact Nat.le_trans (Below.size (by assumption)) (by simp)) _) | (refine Below.via' ?_ (by assumption)) | (refine Below.alloc ?_ (by first | omega | (simp; done) | (simp; omega) | exact Below.size (by assumption) | exact Nat.le_trans (Below.size (by assumption)) (by simp)) _) | (refine Below.via ?_ (by assumption) (by first | omega | (simp; done) | (simp; omega) | exact Below.size (by assumption) | exact Nat.le_trans (Below.size (by assumption)) (by simp)))))⟩
  · have hv2 := Lib.hid (md_ok hv.out (ma_no2 (S := S) (I := I) (V := V) hh))
    clear hh
    go_wp2
    go_ret2
    exact ⟨ret_two hv2.out.symm hv.out.symm, (by repeat (first | exact Below.refl _ _ | assumption | refine Below.drew ?_ | refine below_drewN ?_ _ | refine Below.alloc' ?_ _ | (refine Below.setCell ?_ (by first | omega | (simp; done) | (simp; omega) | exact Below.size (by assumption) | exact Nat.le_trans (Below.size (by assumption)) (by simp)) _) | (refine Below.via' ?_ (by assumption)) | (refine Below.alloc ?_ (by first | omega | (simp; done) | (simp; omega) | exact Below.size (by assumption) | exact Nat.le_trans (Below.size (by assumption)) (by simp)) _) | (refine Below.via ?_ (by assumption) (by first | omega | (simp; done) | (simp; omega) | exact Below.size (by assumption) | exact Nat.le_trans (Below.size (by assumption)) (by simp)))))⟩
theorem iIMd_m (x y f z u : Option Addr) (c1 c2 c3 c4 c5 : Nat) (S : List (ByteArray × Int)) (Q : List PR) (I V X : List Int) (w : World) (hS : SIn w x c1 S) (hQ : EIn w y Q) (hI : IIn w f I) (hV : IIn w z V) (hX : IIn w u X) (M : List (List Int)) (hM : eM Q = M) :
    Calls Tryz.prog 38 #[.slice x S.length c1, .slice y Q.length c2, .slice f I.length c3, .slice z V.length c4, .slice u X.length c5] w fun e w' => e = .returned (.tuple #[.bool (mdB S M I V X), .bool (cgG S M I V)]) ∧ Below w.heap.size w w' := by subst hM; exact iIMd_x x y f z u c1 c2 c3 c4 c5 S Q I V X w hS hQ hI hV hX
end Go.Proofs.YtmcibcechffppaaGreat
