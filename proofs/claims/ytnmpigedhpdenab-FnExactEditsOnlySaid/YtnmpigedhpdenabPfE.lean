import Derived.Test.YtnmpigedhpdenabEdV
import Derived.Deep.DeepCutAuto
import Derived.Test.YtnmpigedhpdenabPfA
import Derived.Test.YtnmpigedhpdenabPfD
import Derived.WalkMore
import Derived.Deep.RegionHeld
import Derived.Test.YtnmpigedhpdenabEdS
namespace Go.Proofs.Ytnmpigedhpdenab
open Go.RowKit
set_option maxRecDepth 100000

/-- The variables in which two lists of values differ. -/
def dvB (V X : List Int) (i : Nat) : Bool := !decide (V[i]? = X[i]?)
def dvL (V X : List Int) : List Int := pkUp (dvB V X) V.length
theorem dvL_len (V X : List Int) : (dvL V X).length ≤ V.length := pkUp_len _ _
theorem pk_iinW {w : World} {x : Option Addr} {p : Nat → Bool} {n : Nat} (hn : n ≤ 1000) (h : Rd w x (iC (pkUp p n))) : IIn w x (pkUp p n) := ⟨by have := pkUp_len p n; omega, fun v hv => by
  obtain ⟨i, rfl, hi, _⟩ := pkUp_mem hv
  unfold IsI64
  omega, h⟩
theorem pk_iin {w : World} {x : Option Addr} {p : Nat → Bool} {n : Nat} (hn : n ≤ 1000) (h : Rd w x (iC (pkUp p n))) : IIn w x (pkUp p n) := ⟨by have := pkUp_len p n; omega, fun v hv => by
  obtain ⟨i, rfl, hi, _⟩ := pkUp_mem hv
  unfold IsI64
  omega, h⟩
set_option maxHeartbeats 2000000 in
theorem differing_any (y z : Option Addr) (c1 c2 : Nat) (V X : List Int) (w : World) (hl : V.length = X.length) (h6 : V.length ≤ 1000) (hV : IIn w y V) (hX : IIn w z X) :
    Calls Try.prog 153 #[.slice y V.length c1, .slice z X.length c2] w (RetL (dvL V X) w) := by
  obtain ⟨i0, hii, hz0, hz1, hz2⟩ := info_parts Try.infoInt
  have hVh := Lib.hid hV
  have hXh := Lib.hid hX
  have hlh := Lib.hid hl
  clear hV hX hl
  go_enter Try.func153, Try.ntmps153
  go_wp2
  go_loopw [5, 9] (fun u c wr => ∃ i : Nat, i ≤ V.length ∧ c = .int .i64 i ∧ wr.ownsRow w.heap.size 3 1 u (pkUp (dvB V X) i).length (iC (pkUp (dvB V X) i)) ∧ Below w.heap.size w wr) (fun _ c _ => V.length - (intOf c).toNat)
  case atStart => exact ⟨0, by omega, rfl, World.ownsRow_nil _ _ _ _, (by repeat (first | exact Below.refl _ _ | assumption | refine Below.drew ?_ | refine below_drewN ?_ _ | refine Below.alloc' ?_ _ | (refine Below.setCell ?_ (by first | omega | (simp; done) | (simp; omega) | exact Below.size (by assumption) | exact Nat.le_trans (Below.size (by assumption)) (by simp)) _) | (refine Below.via' ?_ (by assumption)) | (refine Below.alloc ?_ (by first | omega | (simp; done) | (simp; omega) | exact Below.size (by assumption) | exact Nat.le_trans (Below.size (by assumption)) (by simp)) _) | (refine Below.via ?_ (by assumption) (by first | omega | (simp; done) | (simp; omega) | exact Below.size (by assumption) | exact Nat.le_trans (Below.size (by assumption)) (by simp)))))⟩
  case round =>
    obtain ⟨i, hi, rfl, hown, hBr⟩ := hrel
    have hownh := Lib.hid hown
    clear hown
    have hsl := pkUp_len (dvB V X) i
    by_cases hlt : i < V.length
    · obtain ⟨bl, off, a, rfl, hbl, hVi, hc0⟩ := (hVh.out.below hBr).2.2.int hlt
      obtain ⟨bl2, off2, d, rfl, hbl2, hXi, hc1⟩ := (hXh.out.below hBr).2.2.int (i := i) (by have := hlh.out; omega)
      have hlt' : (i : Int) < (V.length : Int) := by omega
      have hlt2 : (i : Int) < (X.length : Int) := by have := hlh.out; omega
      have hi0 : (0 : Int) ≤ (i : Int) := by omega
      by_cases he : a = d
      · have hsel : Hid (pkUp (dvB V X) (i + 1) = pkUp (dvB V X) i) := pkUp_no (by unfold dvB; rw [hVi, hXi, he]; simp)
        have heb : (a == d) = true := by rw [beq_iff_eq]; exact he
        replace he := Lib.hid he
        replace hVi := Lib.hid hVi
        replace hXi := Lib.hid hXi
        go_wp2
        go_region
        all_goals
          go_wp2
          go_roundw
          case rel => exact ⟨i + 1, by omega, by go_num, by rw [hsel.out]; exact hownh.out, (by repeat (first | exact Below.refl _ _ | assumption | refine Below.drew ?_ | refine below_drewN ?_ _ | refine Below.alloc' ?_ _ | (refine Below.setCell ?_ (by first | omega | (simp; done) | (simp; omega) | exact Below.size (by assumption) | exact Nat.le_trans (Below.size (by assumption)) (by simp)) _) | (refine Below.via' ?_ (by assumption)) | (refine Below.alloc ?_ (by first | omega | (simp; done) | (simp; omega) | exact Below.size (by assumption) | exact Nat.le_trans (Below.size (by assumption)) (by simp)) _) | (refine Below.via ?_ (by assumption) (by first | omega | (simp; done) | (simp; omega) | exact Below.size (by assumption) | exact Nat.le_trans (Below.size (by assumption)) (by simp)))))⟩
          case measure => simp [intOf]; omega
      · have hsel : Hid (pkUp (dvB V X) (i + 1) = pkUp (dvB V X) i ++ [(i : Int)]) := pkUp_yes (by unfold dvB; rw [hVi, hXi]; simp [he])
        have heb : (a == d) = false := by rw [beq_eq_false_iff_ne]; exact he
        replace he := Lib.hid he
        replace hVi := Lib.hid hVi
        replace hXi := Lib.hid hXi
        go_wp2
        go_upto_region 5 with fail
        go_cut [20] (fun s20 wx => s20 = .bool true ∧ Hid (wx.ownsRow w.heap.size 3 1 u5 (pkUp (dvB V X) i).length (iC (pkUp (dvB V X) i))) ∧ Below w.heap.size w wx)
        case first =>
          go_region
          all_goals
            go_wp2_with fail
            go_meet
            exact ⟨by rw [bne, heb]; rfl, hownh.out, (by repeat (first | exact Below.refl _ _ | assumption | refine Below.drew ?_ | refine below_drewN ?_ _ | refine Below.alloc' ?_ _ | (refine Below.setCell ?_ (by first | omega | (simp; done) | (simp; omega) | exact Below.size (by assumption) | exact Nat.le_trans (Below.size (by assumption)) (by simp)) _) | (refine Below.via' ?_ (by assumption)) | (refine Below.alloc ?_ (by first | omega | (simp; done) | (simp; omega) | exact Below.size (by assumption) | exact Nat.le_trans (Below.size (by assumption)) (by simp)) _) | (refine Below.via ?_ (by assumption) (by first | omega | (simp; done) | (simp; omega) | exact Below.size (by assumption) | exact Nat.le_trans (Below.size (by assumption)) (by simp)))))⟩
        obtain ⟨rfl, ow, hBx⟩ := hcut
        obtain ⟨wx, rfl⟩ : ∃ x : World, x = wc := ⟨_, rfl⟩
        clear hc0 hc1 hbl hbl2 hownh hBr
        have hlow := hBx.size
        go_wp2_with (at_builtin; go_loud (refine wpList_append_rd _ rfl (.tmp 21) (.tmp 23) 23 rfl (w.heap.size) 3 i0 (.int .i64 0) 1 8 Try.underlying23 hii hz0 hz1 hz2 rfl (by decide) _ (pkUp (dvB V X) i).length (iC (pkUp (dvB V X) i)) rfl ((ow.out.alloc _)) _ 1 1 rfl (Nat.le_refl _) (by intro h; cases h) (iC [((i : Int) : Int)]) rfl (rd_oneE _ _ _ _ (by simp)) (iC_one _) (by unfold maxLen; omega) (by omega) (by simp; omega) ?_); intro v3 w3 hown3 hgrow3 hwhere3)
        obtain ⟨hb4, -⟩ := append_below hBx (fun k hk => (ow.out.lt k hk).1) hgrow3 hwhere3
        have hown3 := Lib.hid (own_snocE hown3 hsel.out rfl)
        clear hgrow3 hwhere3
        go_wp2
        go_roundw
        case rel => exact ⟨i + 1, by omega, by go_num, hown3.out, hb4⟩
        case measure => simp [intOf]; omega
    · have hij : i = V.length := by omega
      subst hij
      go_wp2
      go_ret
      exact ⟨_, rfl, hownh.out, hBr⟩
end Go.Proofs.Ytnmpigedhpdenab

namespace Go.Proofs.Ytnmpigedhpdenab
open Go.RowKit
set_option maxRecDepth 100000

/-- Strictly increasing from b on, below n. -/
def rsU (n : Int) : Int → List Int → Bool
  | _, [] => true
  | b, v :: r => decide (b ≤ v ∧ v < n) && rsU n (v + 1) r
theorem rsU_at {n b : Int} {F : List Int} {i : Nat} {v : Int} (h : F[i]? = some v) : rsU n b (F.drop i) = (decide (b ≤ v ∧ v < n) && rsU n (v + 1) (F.drop (i + 1))) := by
  obtain ⟨hi, e⟩ := List.getElem?_eq_some_iff.1 h
  rw [List.drop_eq_getElem_cons hi, e]
  rfl
theorem rs_end {n b : Int} {F : List Int} : rsU n b (F.drop F.length) = true := by rw [List.drop_length]; rfl
theorem rs_bd {n : Int} : ∀ {b : Int} {F : List Int}, rsU n b F = true → ∀ v ∈ F, b ≤ v ∧ v < n
  | _, [], _, v, hv => by cases hv
  | b, u :: r, h, v, hv => by
    unfold rsU at h
    rw [Bool.and_eq_true, decide_eq_true_eq] at h
    rcases List.mem_cons.1 hv with rfl | hm
    · exact h.1
    · have := rs_bd h.2 v hm
      omega
def rsB (S : List (ByteArray × Int)) (F : List Int) : Bool := rsU S.length 0 F
theorem ag_hit {F V x : List Int} {i : Nat} {v : Int} (h : F[i]? = some v) (hne : ¬ x[v.toNat]? = V[v.toNat]?) : agB F V x = false := by
  unfold agB
  rw [List.all_eq_false]
  exact ⟨v, List.mem_of_getElem? h, by simp [hne]⟩
theorem ag_all {F V x : List Int} (h : ∀ j, j < F.length → ∃ v, F[j]? = some v ∧ x[v.toNat]? = V[v.toNat]?) : agB F V x = true := by
  unfold agB
  rw [List.all_eq_true]
  intro v hv
  obtain ⟨j, hj, e⟩ := List.getElem_of_mem hv
  obtain ⟨u, h1, h2⟩ := h j hj
  rw [List.getElem?_eq_getElem hj, e] at h1
  cases h1
  exact decide_eq_true h2
theorem ag_snoc {F V x : List Int} {i : Nat} {v : Int} (h : F[i]? = some v) : agB (F.take (i + 1)) V x = (agB (F.take i) V x && decide (x[v.toNat]? = V[v.toNat]?)) := by
  unfold agB
  rw [take_snoc h, List.all_append]
  simp
theorem ag_zero (F V x : List Int) : agB (F.take 0) V x = true := by rw [List.take_zero]; rfl
/-- Is all well asked? -/
def cgG (S : List (ByteArray × Int)) (M : List (List Int)) (F V : List Int) : Bool := smB S M && rsB S F && fitB S V
def ccB (S : List (ByteArray × Int)) (M : List (List Int)) (F V : List Int) : Bool := cgG S M F V && (coN S M F V).isSome
theorem cg_no1 {S : List (ByteArray × Int)} {M : List (List Int)} {F V : List Int} (h : smB S M = false) : cgG S M F V = false := by unfold cgG; rw [h]; rfl
theorem cg_no2 {S : List (ByteArray × Int)} {M : List (List Int)} {F V : List Int} (h : rsB S F = false) : cgG S M F V = false := by unfold cgG; rw [h, Bool.and_false]; rfl
theorem cg_no3 {S : List (ByteArray × Int)} {M : List (List Int)} {F V : List Int} (h : fitB S V = false) : cgG S M F V = false := by unfold cgG; rw [h, Bool.and_false]
theorem cg_yes {S : List (ByteArray × Int)} {M : List (List Int)} {F V : List Int} (h : smB S M = true) (k : rsB S F = true) (m : fitB S V = true) : cgG S M F V = true := by unfold cgG; rw [h, k, m]; rfl
theorem cg_get {S : List (ByteArray × Int)} {M : List (List Int)} {F V : List Int} (h : cgG S M F V = true) : smB S M = true ∧ rsB S F = true ∧ fitB S V = true := by
  unfold cgG at h
  rw [Bool.and_eq_true, Bool.and_eq_true] at h
  exact ⟨h.1.1, h.1.2, h.2⟩
theorem cc_no {S : List (ByteArray × Int)} {M : List (List Int)} {F V : List Int} (h : cgG S M F V = false) : ccB S M F V = false := by unfold ccB; rw [h]; rfl
theorem cc_ok {S : List (ByteArray × Int)} {M : List (List Int)} {F V : List Int} (h : cgG S M F V = true) : ccB S M F V = (coN S M F V).isSome := by unfold ccB; rw [h]; rfl
theorem co_none {S : List (ByteArray × Int)} {M : List (List Int)} {F V : List Int} (h : coN S M F V = none) : coL S M F V = [] := by unfold coL; rw [h]
theorem co_some {S : List (ByteArray × Int)} {M : List (List Int)} {F V : List Int} {k : Nat} (h : coN S M F V = some k) : coL S M F V = atL S k := by unfold coL; rw [h]
theorem co_len (S : List (ByteArray × Int)) (M : List (List Int)) (F V : List Int) : (coL S M F V).length ≤ S.length := by
  cases h : coN S M F V with
  | none => rw [co_none h]; exact Nat.zero_le _
  | some k => rw [co_some h, atL_len]; exact Nat.le_refl _
theorem coP_eq {S : List (ByteArray × Int)} {M : List (List Int)} {F V : List Int} (k : Nat) : coP S M F V k = (!faB M (atL S k) && agB F V (atL S k)) := rfl
set_option maxHeartbeats 1000000 in
theorem areIndices_any (y : Option Addr) (c2 : Nat) (n : Nat) (F : List Int) (w : World) (hm : n ≤ 1048576) (hF : IIn w y F) :
    Calls Try.prog 92 #[.slice y F.length c2, .int .i64 (n : Int)] w fun e w' => e = .returned (.bool (rsU n 0 F)) ∧ w = w' := by
  have hFh := Lib.hid hF
  have hFl := hF.1
  clear hF
  go_enter Try.func92, Try.ntmps92
  go_wp2
  go_loopw [5, 10] (fun b c wr => ∃ (i : Nat) (bz : Int), i ≤ F.length ∧ c = .int .i64 i ∧ b = .int .i64 bz ∧ 0 ≤ bz ∧ bz ≤ 1048576 ∧ Hid (rsU n bz (F.drop i) = rsU n 0 F) ∧ w = wr) (fun _ c _ => F.length - (intOf c).toNat)
  case atStart => exact ⟨0, 0, by omega, rfl, rfl, by omega, by omega, (by unfold Hid; rw [List.drop_zero]), rfl⟩
  case round =>
    obtain ⟨i, bz, hi, rfl, rfl, hb0, hb1, hrs, rfl⟩ := hrel
    by_cases hlt : i < F.length
    · obtain ⟨bl, off, v, rfl, hbl, hFi, hc0⟩ := hFh.out.2.2.int hlt
      have hv64 := hFh.out.2.1 v (List.mem_of_getElem? hFi)
      unfold IsI64 at hv64
      have hat := Lib.hid (rsU_at (n := (n : Int)) (b := bz) hFi)
      have hlt' : (i : Int) < (F.length : Int) := by omega
      have hi0 : (0 : Int) ≤ (i : Int) := by omega
      clear hFi
      by_cases h1 : v < bz
      · have hv : Hid (rsU n 0 F = false) := by unfold Hid; rw [← hrs.out, hat.out, decide_eq_false (by omega)]; rfl
        go_wp2
        go_ret
        exact ⟨ret_bool hv.out.symm, rfl⟩
      · by_cases h2 : (n : Int) ≤ v
        · have hv : Hid (rsU n 0 F = false) := by unfold Hid; rw [← hrs.out, hat.out, decide_eq_false (by omega)]; rfl
          go_wp2
          go_ret
          exact ⟨ret_bool hv.out.symm, rfl⟩
        · have hv : Hid (rsU n (v + 1) (F.drop (i + 1)) = rsU n 0 F) := by unfold Hid; rw [← hrs.out, hat.out, decide_eq_true (by omega), Bool.true_and]
          go_wp2
          go_roundw
          case rel => exact ⟨i + 1, v + 1, by omega, by go_num, by go_num, by omega, by omega, hv.out, by first | rfl | trivial⟩
          case measure => simp [intOf]; omega
    · have hij : i = F.length := by omega
      subst hij
      have hv : Hid (rsU n 0 F = true) := by unfold Hid; rw [← hrs.out]; exact rs_end
      clear hrs
      go_wp2
      go_ret
      exact ⟨ret_bool hv.out.symm, rfl⟩
theorem areVariablesOf_any (x y : Option Addr) (c1 c2 : Nat) (S : List (ByteArray × Int)) (F : List Int) (w : World) (hm : S.length ≤ 1048576) (hF : IIn w y F) :
    Calls Try.prog 140 #[.slice x S.length c1, .slice y F.length c2] w fun e w' => e = .returned (.bool (rsB S F)) ∧ w = w' := by
  have hFh := Lib.hid hF
  clear hF
  go_enter Try.func140, Try.ntmps140
  go_wp2_with fail
  refine (areIndices_any _ _ S.length F _ hm hFh.out).mono ?_
  rintro e w1 ⟨rfl, rfl⟩
  go_wp2
  go_ret
  exact ⟨rfl, rfl⟩
set_option maxHeartbeats 2000000 in
theorem l1Rising_any (y : Option Addr) (c2 : Nat) (S : List (ByteArray × Int)) (F : List Int) (w : World) (hm : S.length ≤ 1048576) (hF : IIn w y F) :
    Calls Try.prog 95 #[.slice y F.length c2, .int .i64 0, .int .i64 ((S.length : Int) - 1)] w fun e w' => e = .returned (.bool (rsB S F)) ∧ Below w.heap.size w w' := by
  have hFh := Lib.hid hF
  have hFl := hF.1
  clear hF
  go_enter Try.func95, Try.ntmps95
  go_wp2
  go_loopw [11] (fun c wr => ∃ (i : Nat) (bz : Int), i ≤ F.length ∧ c = .int .i64 i ∧ Hid ((i = 0 ∧ bz = 0) ∨ ∃ u, 0 < i ∧ F[i - 1]? = some u ∧ bz = u + 1) ∧ 0 ≤ bz ∧ bz ≤ 1048576 ∧ Hid (rsU S.length bz (F.drop i) = rsB S F) ∧ Below w.heap.size w wr) (fun c _ => F.length - (intOf c).toNat)
  case atStart => exact ⟨0, 0, by omega, rfl, .inl ⟨rfl, rfl⟩, by omega, by omega, (by unfold Hid; rw [List.drop_zero]; rfl), Below.refl _ _⟩
  case round =>
    obtain ⟨i, bz, hi, rfl, hpre, hb0, hb1, hrs, hBr⟩ := hrel
    by_cases hlt : i < F.length
    · obtain ⟨bl, off, v, hy, hbl, hFi, hc0⟩ := (hFh.out.below hBr).2.2.int hlt
      have hv64 := hFh.out.2.1 v (List.mem_of_getElem? hFi)
      unfold IsI64 at hv64
      have hat := Lib.hid (rsU_at (n := (S.length : Int)) (b := bz) hFi)
      have hFih := Lib.hid hFi
      have hlt' : (i : Int) < (F.length : Int) := by omega
      have hi0 : (0 : Int) ≤ (i : Int) := by omega
      clear hFi
      subst hy
      go_wp2_with fail
      refine (l1In_any _ _ _ _).mono ?_
      rintro e w2 ⟨rfl, rfl⟩
      by_cases hin : 0 ≤ v ∧ v < (S.length : Int)
      · have hb : inB v 0 ((S.length : Int) - 1) = true := (inB_iff ..).2 ⟨hin.1, by omega⟩
        rw [hb]
        clear hb
        rcases hpre.out with ⟨rfl, rfl⟩ | ⟨u, hi1, hu, rfl⟩
        · have hv : Hid (rsU S.length (v + 1) (F.drop (0 + 1)) = rsB S F) := by unfold Hid; rw [← hrs.out, hat.out, decide_eq_true (by omega), Bool.true_and]
          go_wp2
          go_roundw
          case rel => exact ⟨0 + 1, v + 1, by omega, by go_num, .inr ⟨v, by omega, by simpa using hFih.out, rfl⟩, by omega, by omega, hv.out, (by repeat (first | exact Below.refl _ _ | assumption | refine Below.drew ?_ | refine below_drewN ?_ _ | refine Below.alloc' ?_ _ | (refine Below.setCell ?_ (by first | omega | (simp; done) | (simp; omega) | exact Below.size (by assumption) | exact Nat.le_trans (Below.size (by assumption)) (by simp)) _) | (refine Below.via' ?_ (by assumption)) | (refine Below.alloc ?_ (by first | omega | (simp; done) | (simp; omega) | exact Below.size (by assumption) | exact Nat.le_trans (Below.size (by assumption)) (by simp)) _) | (refine Below.via ?_ (by assumption) (by first | omega | (simp; done) | (simp; omega) | exact Below.size (by assumption) | exact Nat.le_trans (Below.size (by assumption)) (by simp)))))⟩
          case measure => simp [intOf]; omega
        · obtain ⟨bl2, off2, u2, e2, hbl2, hu2, hc1⟩ := (hFh.out.below hBr).2.2.int (i := i - 1) (by omega)
          injection e2 with e2
          injection e2 with e2 e3
          subst e2 e3
          obtain rfl := Option.some.inj (hu2.symm.trans hu)
          have hpos : (0 : Int) < (i : Int) := by omega
          have hge : (0 : Int) ≤ (i : Int) - 1 := by omega
          have hlt2 : (i : Int) - 1 < (F.length : Int) := by omega
          replace hu := Lib.hid hu
          replace hu2 := Lib.hid hu2
          by_cases h1 : v ≤ u2
          · have hv : Hid (rsB S F = false) := by unfold Hid; rw [← hrs.out, hat.out, decide_eq_false (by omega)]; rfl
            go_wp2
            go_ret
            exact ⟨ret_bool hv.out.symm, (by repeat (first | exact Below.refl _ _ | assumption | refine Below.drew ?_ | refine below_drewN ?_ _ | refine Below.alloc' ?_ _ | (refine Below.setCell ?_ (by first | omega | (simp; done) | (simp; omega) | exact Below.size (by assumption) | exact Nat.le_trans (Below.size (by assumption)) (by simp)) _) | (refine Below.via' ?_ (by assumption)) | (refine Below.alloc ?_ (by first | omega | (simp; done) | (simp; omega) | exact Below.size (by assumption) | exact Nat.le_trans (Below.size (by assumption)) (by simp)) _) | (refine Below.via ?_ (by assumption) (by first | omega | (simp; done) | (simp; omega) | exact Below.size (by assumption) | exact Nat.le_trans (Below.size (by assumption)) (by simp)))))⟩
          · have hv : Hid (rsU S.length (v + 1) (F.drop (i + 1)) = rsB S F) := by unfold Hid; rw [← hrs.out, hat.out, decide_eq_true (by omega), Bool.true_and]
            go_wp2
            go_roundw
            case rel => exact ⟨i + 1, v + 1, by omega, by go_num, .inr ⟨v, by omega, by simpa using hFih.out, rfl⟩, by omega, by omega, hv.out, (by repeat (first | exact Below.refl _ _ | assumption | refine Below.drew ?_ | refine below_drewN ?_ _ | refine Below.alloc' ?_ _ | (refine Below.setCell ?_ (by first | omega | (simp; done) | (simp; omega) | exact Below.size (by assumption) | exact Nat.le_trans (Below.size (by assumption)) (by simp)) _) | (refine Below.via' ?_ (by assumption)) | (refine Below.alloc ?_ (by first | omega | (simp; done) | (simp; omega) | exact Below.size (by assumption) | exact Nat.le_trans (Below.size (by assumption)) (by simp)) _) | (refine Below.via ?_ (by assumption) (by first | omega | (simp; done) | (simp; omega) | exact Below.size (by assumption) | exact Nat.le_trans (Below.size (by assumption)) (by simp)))))⟩
            case measure => simp [intOf]; omega
      · have hb : inB v 0 ((S.length : Int) - 1) = false := by
          cases h : inB v 0 ((S.length : Int) - 1) with
          | false => rfl
          | true => exact absurd ⟨((inB_iff ..).1 h).1, by have := ((inB_iff ..).1 h).2; omega⟩ hin
        have hv : Hid (rsB S F = false) := by unfold Hid; rw [← hrs.out, hat.out, decide_eq_false (by omega)]; rfl
        rw [hb]
        clear hb
        go_wp2
        go_ret
        exact ⟨ret_bool hv.out.symm, (by repeat (first | exact Below.refl _ _ | assumption | refine Below.drew ?_ | refine below_drewN ?_ _ | refine Below.alloc' ?_ _ | (refine Below.setCell ?_ (by first | omega | (simp; done) | (simp; omega) | exact Below.size (by assumption) | exact Nat.le_trans (Below.size (by assumption)) (by simp)) _) | (refine Below.via' ?_ (by assumption)) | (refine Below.alloc ?_ (by first | omega | (simp; done) | (simp; omega) | exact Below.size (by assumption) | exact Nat.le_trans (Below.size (by assumption)) (by simp)) _) | (refine Below.via ?_ (by assumption) (by first | omega | (simp; done) | (simp; omega) | exact Below.size (by assumption) | exact Nat.le_trans (Below.size (by assumption)) (by simp)))))⟩
    · have hij : i = F.length := by omega
      subst hij
      have hv : Hid (rsB S F = true) := by unfold Hid; rw [← hrs.out]; exact rs_end
      clear hrs hpre
      go_wp2
      go_ret
      exact ⟨ret_bool hv.out.symm, hBr⟩
set_option maxHeartbeats 1000000 in
theorem eAsked_any (x y f z : Option Addr) (c1 c2 c3 c4 : Nat) (S : List (ByteArray × Int)) (Q : List PR) (F V : List Int) (w : World) (hS : SIn w x c1 S) (hQ : EIn w y Q) (hF : IIn w f F) (hV : IIn w z V) :
    Calls Try.prog 135 #[.slice x S.length c1, .slice y Q.length c2, .slice f F.length c3, .slice z V.length c4] w fun e w' => e = .returned (.bool (cgG S (eM Q) F V)) ∧ Below w.heap.size w w' := by
  have hSh := Lib.hid hS
  have hQh := Lib.hid hQ
  have hFh := Lib.hid hF
  have hVh := Lib.hid hV
  have hm := hS.1
  clear hS hQ hF hV
  go_enter Try.func135, Try.ntmps135
  go_wp2_with fail
  refine (eSmall_any _ _ _ _ S Q _ (hSh.out.below (by exact (by repeat (first | exact Below.refl _ _ | assumption | refine Below.drew ?_ | refine below_drewN ?_ _ | refine Below.alloc' ?_ _ | (refine Below.setCell ?_ (by first | omega | (simp; done) | (simp; omega) | exact Below.size (by assumption) | exact Nat.le_trans (Below.size (by assumption)) (by simp)) _) | (refine Below.via' ?_ (by assumption)) | (refine Below.alloc ?_ (by first | omega | (simp; done) | (simp; omega) | exact Below.size (by assumption) | exact Nat.le_trans (Below.size (by assumption)) (by simp)) _) | (refine Below.via ?_ (by assumption) (by first | omega | (simp; done) | (simp; omega) | exact Below.size (by assumption) | exact Nat.le_trans (Below.size (by assumption)) (by simp))))))) (hQh.out.below (by exact (by repeat (first | exact Below.refl _ _ | assumption | refine Below.drew ?_ | refine below_drewN ?_ _ | refine Below.alloc' ?_ _ | (refine Below.setCell ?_ (by first | omega | (simp; done) | (simp; omega) | exact Below.size (by assumption) | exact Nat.le_trans (Below.size (by assumption)) (by simp)) _) | (refine Below.via' ?_ (by assumption)) | (refine Below.alloc ?_ (by first | omega | (simp; done) | (simp; omega) | exact Below.size (by assumption) | exact Nat.le_trans (Below.size (by assumption)) (by simp)) _) | (refine Below.via ?_ (by assumption) (by first | omega | (simp; done) | (simp; omega) | exact Below.size (by assumption) | exact Nat.le_trans (Below.size (by assumption)) (by simp)))))))).mono ?_
  rintro e w1 ⟨rfl, hb1⟩
  cases he : smB S (eM Q)
  · have hv := Lib.hid (cg_no1 (F := F) (V := V) he)
    go_wp2
    go_ret
    exact ⟨ret_bool hv.out.symm, (by repeat (first | exact Below.refl _ _ | assumption | refine Below.drew ?_ | refine below_drewN ?_ _ | refine Below.alloc' ?_ _ | (refine Below.setCell ?_ (by first | omega | (simp; done) | (simp; omega) | exact Below.size (by assumption) | exact Nat.le_trans (Below.size (by assumption)) (by simp)) _) | (refine Below.via' ?_ (by assumption)) | (refine Below.alloc ?_ (by first | omega | (simp; done) | (simp; omega) | exact Below.size (by assumption) | exact Nat.le_trans (Below.size (by assumption)) (by simp)) _) | (refine Below.via ?_ (by assumption) (by first | omega | (simp; done) | (simp; omega) | exact Below.size (by assumption) | exact Nat.le_trans (Below.size (by assumption)) (by simp)))))⟩
  have heh := Lib.hid he
  have hsh := Lib.hid (el_get (sm_get he).1).1
  clear he
  go_wp2_with fail
  refine (l1Rising_any _ _ S F _ hm (hFh.out.below (by exact (by repeat (first | exact Below.refl _ _ | assumption | refine Below.drew ?_ | refine below_drewN ?_ _ | refine Below.alloc' ?_ _ | (refine Below.setCell ?_ (by first | omega | (simp; done) | (simp; omega) | exact Below.size (by assumption) | exact Nat.le_trans (Below.size (by assumption)) (by simp)) _) | (refine Below.via' ?_ (by assumption)) | (refine Below.alloc ?_ (by first | omega | (simp; done) | (simp; omega) | exact Below.size (by assumption) | exact Nat.le_trans (Below.size (by assumption)) (by simp)) _) | (refine Below.via ?_ (by assumption) (by first | omega | (simp; done) | (simp; omega) | exact Below.size (by assumption) | exact Nat.le_trans (Below.size (by assumption)) (by simp)))))))).mono ?_
  rintro e w2 ⟨rfl, hb2⟩
  cases hr : rsB S F
  · have hv := Lib.hid (cg_no2 (M := eM Q) (V := V) hr)
    go_wp2
    go_ret
    exact ⟨ret_bool hv.out.symm, (by repeat (first | exact Below.refl _ _ | assumption | refine Below.drew ?_ | refine below_drewN ?_ _ | refine Below.alloc' ?_ _ | (refine Below.setCell ?_ (by first | omega | (simp; done) | (simp; omega) | exact Below.size (by assumption) | exact Nat.le_trans (Below.size (by assumption)) (by simp)) _) | (refine Below.via' ?_ (by assumption)) | (refine Below.alloc ?_ (by first | omega | (simp; done) | (simp; omega) | exact Below.size (by assumption) | exact Nat.le_trans (Below.size (by assumption)) (by simp)) _) | (refine Below.via ?_ (by assumption) (by first | omega | (simp; done) | (simp; omega) | exact Below.size (by assumption) | exact Nat.le_trans (Below.size (by assumption)) (by simp)))))⟩
  have hrh := Lib.hid hr
  clear hr
  go_wp2_with fail
  refine (sFits_any _ _ _ _ S V _ hsh.out hm (hSh.out.rd.below (by exact (by repeat (first | exact Below.refl _ _ | assumption | refine Below.drew ?_ | refine below_drewN ?_ _ | refine Below.alloc' ?_ _ | (refine Below.setCell ?_ (by first | omega | (simp; done) | (simp; omega) | exact Below.size (by assumption) | exact Nat.le_trans (Below.size (by assumption)) (by simp)) _) | (refine Below.via' ?_ (by assumption)) | (refine Below.alloc ?_ (by first | omega | (simp; done) | (simp; omega) | exact Below.size (by assumption) | exact Nat.le_trans (Below.size (by assumption)) (by simp)) _) | (refine Below.via ?_ (by assumption) (by first | omega | (simp; done) | (simp; omega) | exact Below.size (by assumption) | exact Nat.le_trans (Below.size (by assumption)) (by simp))))))) (hVh.out.below (by exact (by repeat (first | exact Below.refl _ _ | assumption | refine Below.drew ?_ | refine below_drewN ?_ _ | refine Below.alloc' ?_ _ | (refine Below.setCell ?_ (by first | omega | (simp; done) | (simp; omega) | exact Below.size (by assumption) | exact Nat.le_trans (Below.size (by assumption)) (by simp)) _) | (refine Below.via' ?_ (by assumption)) | (refine Below.alloc ?_ (by first | omega | (simp; done) | (simp; omega) | exact Below.size (by assumption) | exact Nat.le_trans (Below.size (by assumption)) (by simp)) _) | (refine Below.via ?_ (by assumption) (by first | omega | (simp; done) | (simp; omega) | exact Below.size (by assumption) | exact Nat.le_trans (Below.size (by assumption)) (by simp)))))))).mono ?_
  rintro e w3 ⟨rfl, hb3⟩
  cases hf : fitB S V
  · have hv := Lib.hid (cg_no3 (M := eM Q) (F := F) hf)
    go_wp2
    go_ret
    exact ⟨ret_bool hv.out.symm, (by repeat (first | exact Below.refl _ _ | assumption | refine Below.drew ?_ | refine below_drewN ?_ _ | refine Below.alloc' ?_ _ | (refine Below.setCell ?_ (by first | omega | (simp; done) | (simp; omega) | exact Below.size (by assumption) | exact Nat.le_trans (Below.size (by assumption)) (by simp)) _) | (refine Below.via' ?_ (by assumption)) | (refine Below.alloc ?_ (by first | omega | (simp; done) | (simp; omega) | exact Below.size (by assumption) | exact Nat.le_trans (Below.size (by assumption)) (by simp)) _) | (refine Below.via ?_ (by assumption) (by first | omega | (simp; done) | (simp; omega) | exact Below.size (by assumption) | exact Nat.le_trans (Below.size (by assumption)) (by simp)))))⟩
  · have hv := Lib.hid (cg_yes heh.out hrh.out hf)
    go_wp2
    go_ret
    exact ⟨ret_bool hv.out.symm, (by repeat (first | exact Below.refl _ _ | assumption | refine Below.drew ?_ | refine below_drewN ?_ _ | refine Below.alloc' ?_ _ | (refine Below.setCell ?_ (by first | omega | (simp; done) | (simp; omega) | exact Below.size (by assumption) | exact Nat.le_trans (Below.size (by assumption)) (by simp)) _) | (refine Below.via' ?_ (by assumption)) | (refine Below.alloc ?_ (by first | omega | (simp; done) | (simp; omega) | exact Below.size (by assumption) | exact Nat.le_trans (Below.size (by assumption)) (by simp)) _) | (refine Below.via ?_ (by assumption) (by first | omega | (simp; done) | (simp; omega) | exact Below.size (by assumption) | exact Nat.le_trans (Below.size (by assumption)) (by simp)))))⟩
end Go.Proofs.Ytnmpigedhpdenab

namespace Go.Proofs.Ytnmpigedhpdenab
open Go.RowKit
set_option maxRecDepth 100000

/-- Are the variables that are involved in an edit all among some? -/
def eoB (S : List (ByteArray × Int)) (I E : List Int) : Bool := (ivL S E).all fun v => I.contains v
def eoL (S : List (ByteArray × Int)) (M : List (List Int)) (I : List Int) : List (List Int) := (mxL S M (-1)).filter (eoB S I)
def eoG (S : List (ByteArray × Int)) (M : List (List Int)) (I : List Int) : Bool := smB S M && rsB S I
theorem eo_no1 {S : List (ByteArray × Int)} {M : List (List Int)} {I : List Int} (h : smB S M = false) : eoG S M I = false := by unfold eoG; rw [h]; rfl
theorem eo_no2 {S : List (ByteArray × Int)} {M : List (List Int)} {I : List Int} (h : rsB S I = false) : eoG S M I = false := by unfold eoG; rw [h, Bool.and_false]
theorem eo_yes {S : List (ByteArray × Int)} {M : List (List Int)} {I : List Int} (h : smB S M = true) (k : rsB S I = true) : eoG S M I = true := by unfold eoG; rw [h, k]; rfl
theorem eo_sm {S : List (ByteArray × Int)} {M : List (List Int)} {I : List Int} (h : eoG S M I = true) : smB S M = true := by unfold eoG at h; rw [Bool.and_eq_true] at h; exact h.1
/-- The edits that are taken, of a beginning of the list. -/
def eoQ (S : List (ByteArray × Int)) (I : List Int) (T : List PR) (i : Nat) : List PR := (T.take i).filter fun q => eoB S I q.L
theorem eoQ_no {S : List (ByteArray × Int)} {I : List Int} {T : List PR} {i : Nat} {q : PR} (h : T[i]? = some q) (hn : eoB S I q.L = false) : eoQ S I T (i + 1) = eoQ S I T i := by
  unfold eoQ
  rw [take_snoc h, List.filter_append]
  simp [List.filter, hn]
theorem eoQ_yes {S : List (ByteArray × Int)} {I : List Int} {T : List PR} {i : Nat} {q : PR} (h : T[i]? = some q) (hn : eoB S I q.L = true) : eoQ S I T (i + 1) = eoQ S I T i ++ [q] := by
  unfold eoQ
  rw [take_snoc h, List.filter_append]
  simp [List.filter, hn]
theorem eoQ_len (S : List (ByteArray × Int)) (I : List Int) (T : List PR) (i : Nat) : (eoQ S I T i).length ≤ i := Nat.le_trans (List.length_filter_le _ _) (by rw [List.length_take]; omega)
theorem eoQ_eM {S : List (ByteArray × Int)} {I : List Int} {T : List PR} : eM (eoQ S I T T.length) = (eM T).filter (eoB S I) := by
  unfold eoQ eM
  rw [List.take_length, List.filter_map]
  rfl
theorem OwL.pick {w w' : World} {lo b : Nat} {v u : Value} {T T2 : List PR} (h : OwL w lo v T) (hs : T2.Sublist T) (hb : Below w.heap.size w w') (hu : w'.ownsRow b 153 1 u T2.length (eC T2)) (hlo : lo ≤ b) : OwL w' lo u T2 :=
  ⟨own_more hu hlo, fun q hq => own_below (h.2.1 q (hs.subset hq)) hb, h.2.2.sublist (hs.filterMap _)⟩
theorem eoQ_sub (S : List (ByteArray × Int)) (I : List Int) (T : List PR) (i : Nat) : (eoQ S I T i).Sublist T := (List.filter_sublist).trans (List.take_sublist _ _)
theorem OwL.ein {w : World} {lo : Nat} {x : Option Addr} {c : Nat} {T : List PR} {S : List (ByteArray × Int)} {M : List (List Int)} {v : Int} (h : OwL w lo (.slice x T.length c) T) (hs : schB S = true) (hM : eM T = mxL S M v) (hc : cnZ S ≤ 100) : EIn w x T := by
  refine ⟨?_, fun q hq => ?_, Rd.of_own h.1⟩
  · have h1 := (mx_small (M := M) v hs hc).2
    rw [← hM, eM_len] at h1
    omega
  · have h1 := mx_ed (M := M) (v := v) hs (by rw [← hM]; exact List.mem_map_of_mem hq)
    have h2 := h.2.1 q hq
    unfold PR.v at h2
    exact ed_iin hs h1 (Rd.of_own h2)
theorem eo_tot {S : List (ByteArray × Int)} {M : List (List Int)} {I : List Int} {b : Bool} (h : b = true → smB S M = true) : (eE b (eoL S M I)).length ≤ 1048576 ∧ ((eE b (eoL S M I)).map List.length).sum ≤ 1048576 := by
  cases b with
  | false => exact ⟨by simp [eE], by simp [eE]⟩
  | true =>
    obtain ⟨h1, h2⟩ := sm_get (h rfl)
    have hs := (el_get h1).1
    obtain ⟨h3, h4⟩ := mx_small (M := M) (-1) hs h2
    have hsub : (eoL S M I).length ≤ (mxL S M (-1)).length := List.length_filter_le _ _
    have hmul : (eoL S M I).length * S.length ≤ (mxL S M (-1)).length * S.length := Nat.mul_le_mul_right _ hsub
    have hs1 : ∀ e ∈ eoL S M I, e.length = S.length := fun e he => ed_len (mx_ed hs (List.mem_filter.1 he).1)
    rw [eE_yes _ rfl, sum_len _ hs1]
    exact ⟨by omega, by omega⟩
theorem eC_app (A B : List PR) : eC (A ++ B) = eC A ++ eC B := by unfold eC; rw [List.map_append]
theorem all_snoc {L : List Int} {p : Int → Bool} {j : Nat} {v : Int} (h : L[j]? = some v) : (L.take (j + 1)).all p = ((L.take j).all p && p v) := by
  rw [take_snoc h, List.all_append]
  simp

set_option maxHeartbeats 2000000 in
theorem sEO_x (x y f : Option Addr) (c1 c2 c3 : Nat) (S : List (ByteArray × Int)) (Q : List PR) (I : List Int) (w : World) (hS : SIn w x c1 S) (hQ : EIn w y Q) (hI : IIn w f I) :
    Calls Try.prog 67 #[.slice x S.length c1, .slice y Q.length c2, .slice f I.length c3] w (RetEL (eE (eoG S (eM Q) I) (eoL S (eM Q) I)) (eoG S (eM Q) I) w) := by
  obtain ⟨j0, hif, hy0, hy1, hy2⟩ := info_parts Try.infoEd
  have hSh := Lib.hid hS
  have hQh := Lib.hid hQ
  have hIh := Lib.hid hI
  have hm := hS.1
  have hw1 : IntKind.i64.wrap ((S.length : Int) - 1) = (S.length : Int) - 1 := IntWalk.i64_in _ (by omega)
  clear hS hQ hI
  go_enter Try.func67, Try.ntmps67
  go_wp2_with fail
  refine (eSmall_any _ _ _ _ S Q _ (hSh.out.below (by exact (by repeat (first | exact Below.refl _ _ | assumption | refine Below.drew ?_ | refine below_drewN ?_ _ | refine Below.alloc' ?_ _ | (refine Below.setCell ?_ (by first | omega | (simp; done) | (simp; omega) | exact Below.size (by assumption) | exact Nat.le_trans (Below.size (by assumption)) (by simp)) _) | (refine Below.via' ?_ (by assumption)) | (refine Below.alloc ?_ (by first | omega | (simp; done) | (simp; omega) | exact Below.size (by assumption) | exact Nat.le_trans (Below.size (by assumption)) (by simp)) _) | (refine Below.via ?_ (by assumption) (by first | omega | (simp; done) | (simp; omega) | exact Below.size (by assumption) | exact Nat.le_trans (Below.size (by assumption)) (by simp))))))) (hQh.out.below (by exact (by repeat (first | exact Below.refl _ _ | assumption | refine Below.drew ?_ | refine below_drewN ?_ _ | refine Below.alloc' ?_ _ | (refine Below.setCell ?_ (by first | omega | (simp; done) | (simp; omega) | exact Below.size (by assumption) | exact Nat.le_trans (Below.size (by assumption)) (by simp)) _) | (refine Below.via' ?_ (by assumption)) | (refine Below.alloc ?_ (by first | omega | (simp; done) | (simp; omega) | exact Below.size (by assumption) | exact Nat.le_trans (Below.size (by assumption)) (by simp)) _) | (refine Below.via ?_ (by assumption) (by first | omega | (simp; done) | (simp; omega) | exact Below.size (by assumption) | exact Nat.le_trans (Below.size (by assumption)) (by simp)))))))).mono ?_
  rintro e w1 ⟨rfl, hb1⟩
  cases he : smB S (eM Q)
  · have hv := Lib.hid (eo_no1 (I := I) he)
    go_wp2
    go_ret2
    exact retEL_no hv.out (by repeat (first | exact Below.refl _ _ | assumption | refine Below.drew ?_ | refine below_drewN ?_ _ | refine Below.alloc' ?_ _ | (refine Below.setCell ?_ (by first | omega | (simp; done) | (simp; omega) | exact Below.size (by assumption) | exact Nat.le_trans (Below.size (by assumption)) (by simp)) _) | (refine Below.via' ?_ (by assumption)) | (refine Below.alloc ?_ (by first | omega | (simp; done) | (simp; omega) | exact Below.size (by assumption) | exact Nat.le_trans (Below.size (by assumption)) (by simp)) _) | (refine Below.via ?_ (by assumption) (by first | omega | (simp; done) | (simp; omega) | exact Below.size (by assumption) | exact Nat.le_trans (Below.size (by assumption)) (by simp)))))
  have heh := Lib.hid he
  have hsh := Lib.hid (el_get (sm_get he).1).1
  have hcn := Lib.hid (sm_get he).2
  clear he
  go_wp2_with fail
  refine (l1Rising_any _ _ S I _ hm (hIh.out.below (by exact (by repeat (first | exact Below.refl _ _ | assumption | refine Below.drew ?_ | refine below_drewN ?_ _ | refine Below.alloc' ?_ _ | (refine Below.setCell ?_ (by first | omega | (simp; done) | (simp; omega) | exact Below.size (by assumption) | exact Nat.le_trans (Below.size (by assumption)) (by simp)) _) | (refine Below.via' ?_ (by assumption)) | (refine Below.alloc ?_ (by first | omega | (simp; done) | (simp; omega) | exact Below.size (by assumption) | exact Nat.le_trans (Below.size (by assumption)) (by simp)) _) | (refine Below.via ?_ (by assumption) (by first | omega | (simp; done) | (simp; omega) | exact Below.size (by assumption) | exact Nat.le_trans (Below.size (by assumption)) (by simp)))))))).mono ?_
  rintro e w2 ⟨rfl, hb2⟩
  cases hr : rsB S I
  · have hv := Lib.hid (eo_no2 (M := eM Q) hr)
    go_wp2
    go_ret2
    exact retEL_no hv.out (by repeat (first | exact Below.refl _ _ | assumption | refine Below.drew ?_ | refine below_drewN ?_ _ | refine Below.alloc' ?_ _ | (refine Below.setCell ?_ (by first | omega | (simp; done) | (simp; omega) | exact Below.size (by assumption) | exact Nat.le_trans (Below.size (by assumption)) (by simp)) _) | (refine Below.via' ?_ (by assumption)) | (refine Below.alloc ?_ (by first | omega | (simp; done) | (simp; omega) | exact Below.size (by assumption) | exact Nat.le_trans (Below.size (by assumption)) (by simp)) _) | (refine Below.via ?_ (by assumption) (by first | omega | (simp; done) | (simp; omega) | exact Below.size (by assumption) | exact Nat.le_trans (Below.size (by assumption)) (by simp)))))
  have hv := Lib.hid (eo_yes heh.out hr)
  clear hr
  have B2 : Below w.heap.size w w2 := (by repeat (first | exact Below.refl _ _ | assumption | refine Below.drew ?_ | refine below_drewN ?_ _ | refine Below.alloc' ?_ _ | (refine Below.setCell ?_ (by first | omega | (simp; done) | (simp; omega) | exact Below.size (by assumption) | exact Nat.le_trans (Below.size (by assumption)) (by simp)) _) | (refine Below.via' ?_ (by assumption)) | (refine Below.alloc ?_ (by first | omega | (simp; done) | (simp; omega) | exact Below.size (by assumption) | exact Nat.le_trans (Below.size (by assumption)) (by simp)) _) | (refine Below.via ?_ (by assumption) (by first | omega | (simp; done) | (simp; omega) | exact Below.size (by assumption) | exact Nat.le_trans (Below.size (by assumption)) (by simp)))))
  clear hb1 hb2
  go_wp2_with fail
  refine (eMaximal_any _ _ _ _ S Q _ _ heh.out (hSh.out.below (by exact (by repeat (first | exact Below.refl _ _ | assumption | refine Below.drew ?_ | refine below_drewN ?_ _ | refine Below.alloc' ?_ _ | (refine Below.setCell ?_ (by first | omega | (simp; done) | (simp; omega) | exact Below.size (by assumption) | exact Nat.le_trans (Below.size (by assumption)) (by simp)) _) | (refine Below.via' ?_ (by assumption)) | (refine Below.alloc ?_ (by first | omega | (simp; done) | (simp; omega) | exact Below.size (by assumption) | exact Nat.le_trans (Below.size (by assumption)) (by simp)) _) | (refine Below.via ?_ (by assumption) (by first | omega | (simp; done) | (simp; omega) | exact Below.size (by assumption) | exact Nat.le_trans (Below.size (by assumption)) (by simp))))))) (hQh.out.below (by exact (by repeat (first | exact Below.refl _ _ | assumption | refine Below.drew ?_ | refine below_drewN ?_ _ | refine Below.alloc' ?_ _ | (refine Below.setCell ?_ (by first | omega | (simp; done) | (simp; omega) | exact Below.size (by assumption) | exact Nat.le_trans (Below.size (by assumption)) (by simp)) _) | (refine Below.via' ?_ (by assumption)) | (refine Below.alloc ?_ (by first | omega | (simp; done) | (simp; omega) | exact Below.size (by assumption) | exact Nat.le_trans (Below.size (by assumption)) (by simp)) _) | (refine Below.via ?_ (by assumption) (by first | omega | (simp; done) | (simp; omega) | exact Below.size (by assumption) | exact Nat.le_trans (Below.size (by assumption)) (by simp)))))))).mono ?_
  rintro e w3 ⟨u3, T, rfl, hM, ho3, hb3⟩
  obtain ⟨x3, n3, rfl, -, -⟩ := (OwR.of ho3.1).form
  have hT := Lib.hid (ho3.ein hsh.out hM hcn.out)
  have hTl := hT.out.1
  have ho3 := Lib.hid (ho3.more B2.size)
  have hMh := Lib.hid hM
  have B3 : Below w.heap.size w w3 := (by repeat (first | exact Below.refl _ _ | assumption | refine Below.drew ?_ | refine below_drewN ?_ _ | refine Below.alloc' ?_ _ | (refine Below.setCell ?_ (by first | omega | (simp; done) | (simp; omega) | exact Below.size (by assumption) | exact Nat.le_trans (Below.size (by assumption)) (by simp)) _) | (refine Below.via' ?_ (by assumption)) | (refine Below.alloc ?_ (by first | omega | (simp; done) | (simp; omega) | exact Below.size (by assumption) | exact Nat.le_trans (Below.size (by assumption)) (by simp)) _) | (refine Below.via ?_ (by assumption) (by first | omega | (simp; done) | (simp; omega) | exact Below.size (by assumption) | exact Nat.le_trans (Below.size (by assumption)) (by simp)))))
  have hs3 := B3.size
  clear hM hb3 B2
  go_wp2
  go_loopw [8, 30] (fun u c wr => ∃ i : Nat, i ≤ T.length ∧ c = .int .i64 i ∧ Hid (wr.ownsRow w3.heap.size 153 1 u (eoQ S I T i).length (eC (eoQ S I T i))) ∧ Below w3.heap.size w3 wr) (fun _ c _ => T.length - (intOf c).toNat)
  case atStart => exact ⟨0, by omega, rfl, World.ownsRow_nil _ _ _ _, Below.refl _ _⟩
  case round =>
    obtain ⟨i, hi, rfl, hown, hBr⟩ := hrel
    have hsl := eoQ_len S I T i
    have hszr := hBr.size
    by_cases hlt : i < T.length
    · obtain ⟨bl, off, q, hxe, hbl, hTq, hc0⟩ := (hT.out.below hBr).2.2.ed hlt
      subst hxe
      have hqin := Lib.hid ((hT.out.2.1 q (List.mem_of_getElem? hTq)).below hBr)
      have hqe := eM_at hTq
      have hed := Lib.hid (mx_ed (M := eM Q) (v := -1) hsh.out (by rw [← hMh.out]; exact List.mem_of_getElem? hqe))
      have hTqh := Lib.hid hTq
      have hlt' : (i : Int) < (T.length : Int) := by omega
      have hBrh := Lib.hid hBr
      have hBw : Below w.heap.size w wr := B3.trans (hBr.mono hs3)
      clear hTq hqe hBr
      obtain ⟨wo, rfl⟩ : ∃ q : World, q = wr := ⟨_, rfl⟩
      have z1 := Lib.hid (Boxed.new wo 153 q.v)
      go_wp2_with fail
      refine (eInvolved_any _ _ _ _ S q.L _ hsh.out hed.out (hSh.out.below (by exact (by repeat (first | exact Below.refl _ _ | assumption | refine Below.drew ?_ | refine below_drewN ?_ _ | refine Below.alloc' ?_ _ | (refine Below.setCell ?_ (by first | omega | (simp; done) | (simp; omega) | exact Below.size (by assumption) | exact Nat.le_trans (Below.size (by assumption)) (by simp)) _) | (refine Below.via' ?_ (by assumption)) | (refine Below.alloc ?_ (by first | omega | (simp; done) | (simp; omega) | exact Below.size (by assumption) | exact Nat.le_trans (Below.size (by assumption)) (by simp)) _) | (refine Below.via ?_ (by assumption) (by first | omega | (simp; done) | (simp; omega) | exact Below.size (by assumption) | exact Nat.le_trans (Below.size (by assumption)) (by simp))))))) (hqin.out.below (by exact (by repeat (first | exact Below.refl _ _ | assumption | refine Below.drew ?_ | refine below_drewN ?_ _ | refine Below.alloc' ?_ _ | (refine Below.setCell ?_ (by first | omega | (simp; done) | (simp; omega) | exact Below.size (by assumption) | exact Nat.le_trans (Below.size (by assumption)) (by simp)) _) | (refine Below.via' ?_ (by assumption)) | (refine Below.alloc ?_ (by first | omega | (simp; done) | (simp; omega) | exact Below.size (by assumption) | exact Nat.le_trans (Below.size (by assumption)) (by simp)) _) | (refine Below.via ?_ (by assumption) (by first | omega | (simp; done) | (simp; omega) | exact Below.size (by assumption) | exact Nat.le_trans (Below.size (by assumption)) (by simp)))))))).mono ?_
      rintro e w4 ⟨u4, rfl, ho4, hb4⟩
      obtain ⟨x4, n4, rfl, -, -⟩ := (OwR.of ho4).form
      have hiv : Hid (IIn w4 x4 (ivL S q.L)) := pk_iin (by have := (schB_len hsh.out).2; omega) (Rd.of_own ho4)
      have hB4 : Below wo.heap.size wo w4 := (by repeat (first | exact Below.refl _ _ | assumption | refine Below.drew ?_ | refine below_drewN ?_ _ | refine Below.alloc' ?_ _ | (refine Below.setCell ?_ (by first | omega | (simp; done) | (simp; omega) | exact Below.size (by assumption) | exact Nat.le_trans (Below.size (by assumption)) (by simp)) _) | (refine Below.via' ?_ (by assumption)) | (refine Below.alloc ?_ (by first | omega | (simp; done) | (simp; omega) | exact Below.size (by assumption) | exact Nat.le_trans (Below.size (by assumption)) (by simp)) _) | (refine Below.via ?_ (by assumption) (by first | omega | (simp; done) | (simp; omega) | exact Below.size (by assumption) | exact Nat.le_trans (Below.size (by assumption)) (by simp)))))
      have hown4 := Lib.hid (own_below hown.out hB4)
      have hc4 := (hb4.cell (p := ⟨wo.heap.size, 0, none⟩) (by simp)).trans z1.out.cell
      have hBw4 : Below w.heap.size w w4 := hBw.trans (hB4.mono hBw.size)
      have hB34 : Below w3.heap.size w3 w4 := hBrh.out.trans (hB4.mono hszr)
      unfold PR.v at hc4
      have hs34 := hB34.size
      have hs04 := hB4.size
      have hivl : (ivL S q.L).length ≤ 6 := Nat.le_trans (pkUp_len _ _) (schB_len hsh.out).2
      clear ho4 hb4 hown z1
      go_wp2
      go_loopw [11, 38] (fun s c wr => ∃ j : Nat, j ≤ (ivL S q.L).length ∧ c = .int .i64 j ∧ s = .bool (((ivL S q.L).take j).all fun v => I.contains v) ∧ w4 = wr) (fun _ c _ => (ivL S q.L).length - (intOf c).toNat)
      case atStart => exact ⟨0, by omega, rfl, by rw [List.take_zero]; rfl, rfl⟩
      case round =>
        obtain ⟨j, hj, rfl, rfl, rfl⟩ := hrel
        by_cases hjl : j < (ivL S q.L).length
        · obtain ⟨bl2, off2, v, hxe2, hbl2, hvi, hc2⟩ := hiv.out.2.2.int hjl
          subst hxe2
          have hsn := Lib.hid (all_snoc (p := fun v => I.contains v) hvi)
          have hjl' : (j : Int) < ((ivL S q.L).length : Int) := by omega
          have hj0 : (0 : Int) ≤ (j : Int) := by omega
          clear hvi
          cases hb : (((ivL S q.L).take j).all fun v => I.contains v)
          · have hnx : Hid ((((ivL S q.L).take (j + 1)).all fun v => I.contains v) = false) := by unfold Hid; rw [hsn.out, hb]; rfl
            replace hb := Lib.hid hb
            go_wp2
            go_roundw
            case rel => exact ⟨j + 1, by omega, by go_num, by first | (rw [hnx.out]; done) | (rw [hnx.out]; simp; done), by first | rfl | trivial⟩
            case measure => simp [intOf]; omega
          · have hnx : Hid ((((ivL S q.L).take (j + 1)).all fun v => I.contains v) = I.contains v) := by unfold Hid; rw [hsn.out, hb, Bool.true_and]
            replace hb := Lib.hid hb
            go_wp2_with fail
            refine (l1Has_any _ _ I v _ (hIh.out.below (by exact hBw4))).mono ?_
            rintro e w5 ⟨rfl, rfl⟩
            go_wp2
            go_roundw
            case rel => exact ⟨j + 1, by omega, by go_num, by first | (rw [hnx.out]; done) | (rw [hnx.out]; simp; done), by first | rfl | trivial⟩
            case measure => simp [intOf]; omega
        · have hij : j = (ivL S q.L).length := by omega
          subst hij
          have hfin : Hid ((((ivL S q.L).take (ivL S q.L).length).all fun v => I.contains v) = eoB S I q.L) := by unfold Hid; rw [List.take_length]; rfl
          rw [hfin.out]
          clear hj hjl
          cases hb : eoB S I q.L
          · have hnx := Lib.hid (eoQ_no hTqh.out hb)
            replace hb := Lib.hid hb
            go_wp2
            go_roundw
            case rel => exact ⟨i + 1, by omega, by go_num, by rw [hnx.out]; exact hown4.out, hB34⟩
            case measure => simp [intOf]; omega
          · have hnx := Lib.hid (eoQ_yes hTqh.out hb)
            replace hb := Lib.hid hb
            go_wp2_with (at_builtin; go_loud (refine wpList_append_rd _ rfl (.tmp 50) (.tmp 52) 83 rfl (w3.heap.size) 153 j0 (.agg #[.slice none 0 0]) 1 24 Try.underlying83 hif hy0 hy1 hy2 rfl (by decide) _ (eoQ S I T i).length (eC (eoQ S I T i)) rfl ((hown4.out.alloc _)) _ 1 1 rfl (Nat.le_refl _) (by intro h; cases h) (eC [q]) rfl (Rd.oneEdM _ _ _ _ _ _ (by simp)) (eC_one _) (by unfold maxLen; omega) (by omega) (by simp; omega) ?_); intro v7 w7 hown7 hgrow7 hwhere7)
            obtain ⟨hb8, -⟩ := append_below hB34 (fun k hk => (hown4.out.lt k hk).1) hgrow7 hwhere7
            have hown8 : Hid (w7.ownsRow w3.heap.size 153 1 v7 (eoQ S I T (i + 1)).length (eC (eoQ S I T (i + 1)))) := by
              unfold Hid
              rw [hnx.out, eC_app, List.length_append]
              exact hown7
            clear hgrow7 hwhere7 hown7
            go_wp2
            go_roundw
            case rel => exact ⟨i + 1, by omega, by go_num, hown8.out, hb8⟩
            case measure => simp [intOf]; omega
    · have hij : i = T.length := by omega
      subst hij
      have hfin : Hid (eM (eoQ S I T T.length) = eoL S (eM Q) I) := by unfold Hid; rw [eoQ_eM, hMh.out]; rfl
      have hBr2 := B3.trans (hBr.mono hs3)
      have hres := Lib.hid (ho3.out.pick (eoQ_sub S I T T.length) hBr hown.out hs3)
      clear hBr
      go_wp2
      go_ret2
      exact retEL_yes hv.out hfin.out hres.out hBr2
end Go.Proofs.Ytnmpigedhpdenab

namespace Go.Proofs.Ytnmpigedhpdenab
open Go.RowKit
set_option maxRecDepth 100000
set_option linter.unusedSimpArgs false

theorem eo_hit {S : List (ByteArray × Int)} {I E : List Int} {k : Nat} (hk : k < S.length) (h : ivB S E k = true) (hn : I.contains (k : Int) = false) : eoB S I E = false := by
  unfold eoB
  rw [List.all_eq_false]
  exact ⟨(k : Int), List.mem_map.2 ⟨k, List.mem_filter.2 ⟨List.mem_range.2 hk, h⟩, rfl⟩, by rw [hn]; exact Bool.false_ne_true⟩
theorem eo_all {S : List (ByteArray × Int)} {I E : List Int} (h : ∀ k : Nat, k < S.length → ivB S E k = true → I.contains (k : Int) = true) : eoB S I E = true := by
  unfold eoB
  rw [List.all_eq_true]
  intro v hv
  obtain ⟨k, rfl, hk, hp⟩ := pkUp_mem hv
  exact h k hk hp

set_option maxHeartbeats 4000000 in
theorem iEO_x (x y f : Option Addr) (c1 c2 c3 : Nat) (S : List (ByteArray × Int)) (Q : List PR) (I : List Int) (w : World) (hS : SIn w x c1 S) (hQ : EIn w y Q) (hI : IIn w f I) :
    Calls Try.prog 68 #[.slice x S.length c1, .slice y Q.length c2, .slice f I.length c3] w (RetEL (eE (eoG S (eM Q) I) (eoL S (eM Q) I)) (eoG S (eM Q) I) w) := by
  obtain ⟨j0, hif, hy0, hy1, hy2⟩ := info_parts Try.infoEd
  have hSh := Lib.hid hS
  have hQh := Lib.hid hQ
  have hIh := Lib.hid hI
  have hm := hS.1
  clear hS hQ hI
  go_enter Try.func68, Try.ntmps68
  go_wp2
  go_step3
  go_wp2_with fail
  refine (isSmall_any _ _ _ _ (hSh.out.below (by exact (by repeat (first | exact Below.refl _ _ | assumption | refine Below.drew ?_ | refine below_drewN ?_ _ | refine Below.alloc' ?_ _ | (refine Below.setCell ?_ (by first | omega | (simp; done) | (simp; omega) | exact Below.size (by assumption) | exact Nat.le_trans (Below.size (by assumption)) (by simp)) _) | (refine Below.via' ?_ (by assumption)) | (refine Below.alloc ?_ (by first | omega | (simp; done) | (simp; omega) | exact Below.size (by assumption) | exact Nat.le_trans (Below.size (by assumption)) (by simp)) _) | (refine Below.via ?_ (by assumption) (by first | omega | (simp; done) | (simp; omega) | exact Below.size (by assumption) | exact Nat.le_trans (Below.size (by assumption)) (by simp)))))))).mono ?_
  rintro e w0 ⟨rfl, hb0⟩
  cases hs : smS S
  · have hv := Lib.hid (eo_no1 (I := I) (sm_no3 (M := eM Q) hs))
    go_wp2
    go_ret2
    exact retEL_no hv.out (by repeat (first | exact Below.refl _ _ | assumption | refine Below.drew ?_ | refine below_drewN ?_ _ | refine Below.alloc' ?_ _ | (refine Below.setCell ?_ (by first | omega | (simp; done) | (simp; omega) | exact Below.size (by assumption) | exact Nat.le_trans (Below.size (by assumption)) (by simp)) _) | (refine Below.via' ?_ (by assumption)) | (refine Below.alloc ?_ (by first | omega | (simp; done) | (simp; omega) | exact Below.size (by assumption) | exact Nat.le_trans (Below.size (by assumption)) (by simp)) _) | (refine Below.via ?_ (by assumption) (by first | omega | (simp; done) | (simp; omega) | exact Below.size (by assumption) | exact Nat.le_trans (Below.size (by assumption)) (by simp)))))
  have hsh := Lib.hid (smS_get hs).1
  have hcn := Lib.hid (smS_get hs).2
  clear hs
  go_wp2_with fail
  refine (areEditsFor_any _ _ _ _ S Q _ hsh.out hm (hSh.out.rd.below (by exact (by repeat (first | exact Below.refl _ _ | assumption | refine Below.drew ?_ | refine below_drewN ?_ _ | refine Below.alloc' ?_ _ | (refine Below.setCell ?_ (by first | omega | (simp; done) | (simp; omega) | exact Below.size (by assumption) | exact Nat.le_trans (Below.size (by assumption)) (by simp)) _) | (refine Below.via' ?_ (by assumption)) | (refine Below.alloc ?_ (by first | omega | (simp; done) | (simp; omega) | exact Below.size (by assumption) | exact Nat.le_trans (Below.size (by assumption)) (by simp)) _) | (refine Below.via ?_ (by assumption) (by first | omega | (simp; done) | (simp; omega) | exact Below.size (by assumption) | exact Nat.le_trans (Below.size (by assumption)) (by simp))))))) (hQh.out.below (by exact (by repeat (first | exact Below.refl _ _ | assumption | refine Below.drew ?_ | refine below_drewN ?_ _ | refine Below.alloc' ?_ _ | (refine Below.setCell ?_ (by first | omega | (simp; done) | (simp; omega) | exact Below.size (by assumption) | exact Nat.le_trans (Below.size (by assumption)) (by simp)) _) | (refine Below.via' ?_ (by assumption)) | (refine Below.alloc ?_ (by first | omega | (simp; done) | (simp; omega) | exact Below.size (by assumption) | exact Nat.le_trans (Below.size (by assumption)) (by simp)) _) | (refine Below.via ?_ (by assumption) (by first | omega | (simp; done) | (simp; omega) | exact Below.size (by assumption) | exact Nat.le_trans (Below.size (by assumption)) (by simp)))))))).mono ?_
  rintro e w1 ⟨rfl, hb1⟩
  cases he : elB S (eM Q)
  · have hv := Lib.hid (eo_no1 (I := I) (sm_no1 he))
    go_wp2
    go_ret2
    exact retEL_no hv.out (by repeat (first | exact Below.refl _ _ | assumption | refine Below.drew ?_ | refine below_drewN ?_ _ | refine Below.alloc' ?_ _ | (refine Below.setCell ?_ (by first | omega | (simp; done) | (simp; omega) | exact Below.size (by assumption) | exact Nat.le_trans (Below.size (by assumption)) (by simp)) _) | (refine Below.via' ?_ (by assumption)) | (refine Below.alloc ?_ (by first | omega | (simp; done) | (simp; omega) | exact Below.size (by assumption) | exact Nat.le_trans (Below.size (by assumption)) (by simp)) _) | (refine Below.via ?_ (by assumption) (by first | omega | (simp; done) | (simp; omega) | exact Below.size (by assumption) | exact Nat.le_trans (Below.size (by assumption)) (by simp)))))
  have hsm := Lib.hid (sm_yes he hcn.out)
  have heh := Lib.hid he
  clear he
  go_wp2_with fail
  refine (areVariablesOf_any _ _ _ _ S I _ hm (hIh.out.below (by exact (by repeat (first | exact Below.refl _ _ | assumption | refine Below.drew ?_ | refine below_drewN ?_ _ | refine Below.alloc' ?_ _ | (refine Below.setCell ?_ (by first | omega | (simp; done) | (simp; omega) | exact Below.size (by assumption) | exact Nat.le_trans (Below.size (by assumption)) (by simp)) _) | (refine Below.via' ?_ (by assumption)) | (refine Below.alloc ?_ (by first | omega | (simp; done) | (simp; omega) | exact Below.size (by assumption) | exact Nat.le_trans (Below.size (by assumption)) (by simp)) _) | (refine Below.via ?_ (by assumption) (by first | omega | (simp; done) | (simp; omega) | exact Below.size (by assumption) | exact Nat.le_trans (Below.size (by assumption)) (by simp)))))))).mono ?_
  rintro e w2 ⟨rfl, rfl⟩
  cases hr : rsB S I
  · have hv := Lib.hid (eo_no2 (M := eM Q) hr)
    go_wp2
    go_ret2
    exact retEL_no hv.out (by repeat (first | exact Below.refl _ _ | assumption | refine Below.drew ?_ | refine below_drewN ?_ _ | refine Below.alloc' ?_ _ | (refine Below.setCell ?_ (by first | omega | (simp; done) | (simp; omega) | exact Below.size (by assumption) | exact Nat.le_trans (Below.size (by assumption)) (by simp)) _) | (refine Below.via' ?_ (by assumption)) | (refine Below.alloc ?_ (by first | omega | (simp; done) | (simp; omega) | exact Below.size (by assumption) | exact Nat.le_trans (Below.size (by assumption)) (by simp)) _) | (refine Below.via ?_ (by assumption) (by first | omega | (simp; done) | (simp; omega) | exact Below.size (by assumption) | exact Nat.le_trans (Below.size (by assumption)) (by simp)))))
  have hv := Lib.hid (eo_yes hsm.out hr)
  clear hr
  have B2 : Below w.heap.size w w1 := (by repeat (first | exact Below.refl _ _ | assumption | refine Below.drew ?_ | refine below_drewN ?_ _ | refine Below.alloc' ?_ _ | (refine Below.setCell ?_ (by first | omega | (simp; done) | (simp; omega) | exact Below.size (by assumption) | exact Nat.le_trans (Below.size (by assumption)) (by simp)) _) | (refine Below.via' ?_ (by assumption)) | (refine Below.alloc ?_ (by first | omega | (simp; done) | (simp; omega) | exact Below.size (by assumption) | exact Nat.le_trans (Below.size (by assumption)) (by simp)) _) | (refine Below.via ?_ (by assumption) (by first | omega | (simp; done) | (simp; omega) | exact Below.size (by assumption) | exact Nat.le_trans (Below.size (by assumption)) (by simp)))))
  clear hb0 hb1
  obtain ⟨b0, off0, hxe0, hb0', hcs⟩ := sin_box hSh.out hsh.out
  subst hxe0
  have hcsh := Lib.hid hcs
  have hl6 := (schB_len hsh.out).2
  clear hcs
  go_wp2
  go_step3
  go_wp2_with fail
  refine (maximalEdits_any _ _ _ _ S Q _ heh.out hcn.out (hSh.out.below (by exact (by repeat (first | exact Below.refl _ _ | assumption | refine Below.drew ?_ | refine below_drewN ?_ _ | refine Below.alloc' ?_ _ | (refine Below.setCell ?_ (by first | omega | (simp; done) | (simp; omega) | exact Below.size (by assumption) | exact Nat.le_trans (Below.size (by assumption)) (by simp)) _) | (refine Below.via' ?_ (by assumption)) | (refine Below.alloc ?_ (by first | omega | (simp; done) | (simp; omega) | exact Below.size (by assumption) | exact Nat.le_trans (Below.size (by assumption)) (by simp)) _) | (refine Below.via ?_ (by assumption) (by first | omega | (simp; done) | (simp; omega) | exact Below.size (by assumption) | exact Nat.le_trans (Below.size (by assumption)) (by simp))))))) (hQh.out.below (by exact (by repeat (first | exact Below.refl _ _ | assumption | refine Below.drew ?_ | refine below_drewN ?_ _ | refine Below.alloc' ?_ _ | (refine Below.setCell ?_ (by first | omega | (simp; done) | (simp; omega) | exact Below.size (by assumption) | exact Nat.le_trans (Below.size (by assumption)) (by simp)) _) | (refine Below.via' ?_ (by assumption)) | (refine Below.alloc ?_ (by first | omega | (simp; done) | (simp; omega) | exact Below.size (by assumption) | exact Nat.le_trans (Below.size (by assumption)) (by simp)) _) | (refine Below.via ?_ (by assumption) (by first | omega | (simp; done) | (simp; omega) | exact Below.size (by assumption) | exact Nat.le_trans (Below.size (by assumption)) (by simp)))))))).mono ?_
  rintro e w3 ⟨u3, T, rfl, hM, ho3, hb3⟩
  obtain ⟨x3, n3, rfl, -, -⟩ := (OwR.of ho3.1).form
  have hT := Lib.hid (ho3.ein hsh.out hM hcn.out)
  have hTl := hT.out.1
  have ho3 := Lib.hid (ho3.more B2.size)
  have hMh := Lib.hid hM
  have B3 : Below w.heap.size w w3 := (by repeat (first | exact Below.refl _ _ | assumption | refine Below.drew ?_ | refine below_drewN ?_ _ | refine Below.alloc' ?_ _ | (refine Below.setCell ?_ (by first | omega | (simp; done) | (simp; omega) | exact Below.size (by assumption) | exact Nat.le_trans (Below.size (by assumption)) (by simp)) _) | (refine Below.via' ?_ (by assumption)) | (refine Below.alloc ?_ (by first | omega | (simp; done) | (simp; omega) | exact Below.size (by assumption) | exact Nat.le_trans (Below.size (by assumption)) (by simp)) _) | (refine Below.via ?_ (by assumption) (by first | omega | (simp; done) | (simp; omega) | exact Below.size (by assumption) | exact Nat.le_trans (Below.size (by assumption)) (by simp)))))
  have hs3 := B3.size
  clear hM hb3 B2
  go_wp2
  go_loopw [8, 32] (fun u c wr => ∃ i : Nat, i ≤ T.length ∧ c = .int .i64 i ∧ Hid (wr.ownsRow w3.heap.size 153 1 u (eoQ S I T i).length (eC (eoQ S I T i))) ∧ Below w3.heap.size w3 wr) (fun _ c _ => T.length - (intOf c).toNat)
  case atStart => exact ⟨0, by omega, rfl, World.ownsRow_nil _ _ _ _, Below.refl _ _⟩
  case round =>
    obtain ⟨i, hi, rfl, hown, hBr⟩ := hrel
    have hsl := eoQ_len S I T i
    have hszr := hBr.size
    by_cases hlt : i < T.length
    · obtain ⟨bl, off, ⟨qa, qh, qx, qc, qL⟩, hxe, hbl, hTq, hc0⟩ := (hT.out.below hBr).2.2.ed hlt
      subst hxe
      have hqin := Lib.hid ((hT.out.2.1 _ (List.mem_of_getElem? hTq)).below hBr)
      have hqe := eM_at hTq
      have hed := Lib.hid (mx_ed (M := eM Q) (v := -1) hsh.out (by rw [← hMh.out]; exact List.mem_of_getElem? hqe))
      have hlq := Lib.hid (ed_len hed.out)
      dsimp only at hc0 hqin hed hlq hTq
      have hTqh := Lib.hid hTq
      have hlt' : (i : Int) < (T.length : Int) := by omega
      have hBrh := Lib.hid hBr
      have hBw : Below w.heap.size w wr := B3.trans (hBr.mono hs3)
      clear hTq hqe hBr
      obtain ⟨wo, rfl⟩ : ∃ q : World, q = wr := ⟨_, rfl⟩
      have z1 := Lib.hid (Boxed.new wo 153 (.slice qx qL.length qc))
      have hz1 : Below wo.heap.size wo (wo.alloc (.cells #[.slice qx qL.length qc] 153)) := (by repeat (first | exact Below.refl _ _ | assumption | refine Below.drew ?_ | refine below_drewN ?_ _ | refine Below.alloc' ?_ _ | (refine Below.setCell ?_ (by first | omega | (simp; done) | (simp; omega) | exact Below.size (by assumption) | exact Nat.le_trans (Below.size (by assumption)) (by simp)) _) | (refine Below.via' ?_ (by assumption)) | (refine Below.alloc ?_ (by first | omega | (simp; done) | (simp; omega) | exact Below.size (by assumption) | exact Nat.le_trans (Below.size (by assumption)) (by simp)) _) | (refine Below.via ?_ (by assumption) (by first | omega | (simp; done) | (simp; omega) | exact Below.size (by assumption) | exact Nat.le_trans (Below.size (by assumption)) (by simp)))))
      have hownh := Lib.hid hown.out
      clear hown
      go_wp2
      go_loopw [38] (fun c wr => ∃ j : Nat, j ≤ S.length ∧ c = .int .i64 j ∧ Hid (∀ k : Nat, k < j → ivB S qL k = true → I.contains (k : Int) = true) ∧ Boxed wr wo.heap.size 153 (.slice qx qL.length qc) ∧ Below wo.heap.size wo wr) (fun c _ => S.length - (intOf c).toNat)
      case atStart => exact ⟨0, by omega, rfl, (fun k hk => absurd hk (by omega)), z1.out, hz1⟩
      case round =>
        clear z1 hz1 hc0
        obtain ⟨j, hj, rfl, hall, hbx, hbr⟩ := hrel
        obtain ⟨wi, rfl⟩ : ∃ q : World, q = wr := ⟨_, rfl⟩
        by_cases hjl : j < S.length
        · obtain ⟨nm, lv, xv, hSj, hEj, e1, e2, l1, l2, e3⟩ := ed_at hsh.out hed.out hjl
          have hiv := iv_at hSj hEj
          have hnm : nmA S j = nm ∧ lvA S j = lv := ⟨by unfold nmA; rw [hSj], by unfold lvA; rw [hSj]⟩
          obtain ⟨s0, s1⟩ := hcsh.out j hjl
          rw [hnm.1] at s0
          rw [hnm.2] at s1
          have hBwi : Below w.heap.size w wi := hBw.trans (hbr.mono hBw.size)
          have d0 := (hBwi.cell (p := ⟨b0, off0 + j * 2, none⟩) hb0').trans s0
          have d1 := (hBwi.cell (p := ⟨b0, off0 + j * 2 + 1, none⟩) hb0').trans s1
          obtain ⟨bq, oq, xv', hqx, hbq, hEj2, d2⟩ := (hqin.out.below hbr).2.2.int (i := j) (by have := hlq.out; omega)
          subst hqx
          obtain rfl := Option.some.inj (hEj2.symm.trans hEj)
          have d3 := hbx.cell
          have hb0i : b0 < wi.heap.size := by have := hBwi.size; omega
          have hjl' : (j : Int) < (S.length : Int) := by omega
          have hjq : (j : Int) < (qL.length : Int) := by have := hlq.out; omega
          have hj0' : (0 : Int) ≤ (j : Int) := by omega
          have hIi := Lib.hid (hIh.out.below hBwi)
          have hivh := Lib.hid hiv
          have hbrh := Lib.hid hbr
          have hbxh := Lib.hid hbx
          have hxlt := hbx.lt
          clear hSj hEj hEj2 hnm s0 s1 hiv hbr hbx
          go_wp2
          go_upto_region 10 with fail
          go_cut [56] (fun s56 wx => s56 = .bool (!decide (xv' = flZ lv) && !I.contains (j : Int)) ∧ Below wi.heap.size wi wx)
          case first =>
            by_cases hfl : xv' = flZ lv
            · have hkd : (kdZ lv xv' == 1) = false := by rw [kdZ_all ⟨l1, l2⟩ hfl]; rfl
              have hres : Hid ((!decide (xv' = flZ lv) && !I.contains (j : Int)) = false) := by unfold Hid; simp [hfl]
              replace hfl := Lib.hid hfl
              have g0 : (wi.alloc (.cells #[.string nm, .int .i64 lv] 129)).cell? ⟨wi.heap.size, 0, none⟩ = some (.string nm) := by rw [World.cell?_alloc_at _ _ _ _ rfl]; rfl
              have g1 : (wi.alloc (.cells #[.string nm, .int .i64 lv] 129)).cell? ⟨wi.heap.size, 1, none⟩ = some (.int .i64 lv) := by rw [World.cell?_alloc_at _ _ _ _ rfl]; rfl
              have g2 := (show Below wi.heap.size wi (wi.alloc (.cells #[.string nm, .int .i64 lv] 129)) from (by repeat (first | exact Below.refl _ _ | assumption | refine Below.drew ?_ | refine below_drewN ?_ _ | refine Below.alloc' ?_ _ | (refine Below.setCell ?_ (by first | omega | (simp; done) | (simp; omega) | exact Below.size (by assumption) | exact Nat.le_trans (Below.size (by assumption)) (by simp)) _) | (refine Below.via' ?_ (by assumption)) | (refine Below.alloc ?_ (by first | omega | (simp; done) | (simp; omega) | exact Below.size (by assumption) | exact Nat.le_trans (Below.size (by assumption)) (by simp)) _) | (refine Below.via ?_ (by assumption) (by first | omega | (simp; done) | (simp; omega) | exact Below.size (by assumption) | exact Nat.le_trans (Below.size (by assumption)) (by simp)))))).cell (p := ⟨bq, oq + j, none⟩) hbq |>.trans d2
              have g3 := (show Below wi.heap.size wi (wi.alloc (.cells #[.string nm, .int .i64 lv] 129)) from (by repeat (first | exact Below.refl _ _ | assumption | refine Below.drew ?_ | refine below_drewN ?_ _ | refine Below.alloc' ?_ _ | (refine Below.setCell ?_ (by first | omega | (simp; done) | (simp; omega) | exact Below.size (by assumption) | exact Nat.le_trans (Below.size (by assumption)) (by simp)) _) | (refine Below.via' ?_ (by assumption)) | (refine Below.alloc ?_ (by first | omega | (simp; done) | (simp; omega) | exact Below.size (by assumption) | exact Nat.le_trans (Below.size (by assumption)) (by simp)) _) | (refine Below.via ?_ (by assumption) (by first | omega | (simp; done) | (simp; omega) | exact Below.size (by assumption) | exact Nat.le_trans (Below.size (by assumption)) (by simp)))))).cell (p := ⟨wo.heap.size, 0, none⟩) hxlt |>.trans d3
              have hBW : Below wi.heap.size wi (wi.alloc (.cells #[.string nm, .int .i64 lv] 129)) := (by repeat (first | exact Below.refl _ _ | assumption | refine Below.drew ?_ | refine below_drewN ?_ _ | refine Below.alloc' ?_ _ | (refine Below.setCell ?_ (by first | omega | (simp; done) | (simp; omega) | exact Below.size (by assumption) | exact Nat.le_trans (Below.size (by assumption)) (by simp)) _) | (refine Below.via' ?_ (by assumption)) | (refine Below.alloc ?_ (by first | omega | (simp; done) | (simp; omega) | exact Below.size (by assumption) | exact Nat.le_trans (Below.size (by assumption)) (by simp)) _) | (refine Below.via ?_ (by assumption) (by first | omega | (simp; done) | (simp; omega) | exact Below.size (by assumption) | exact Nat.le_trans (Below.size (by assumption)) (by simp)))))
              have hWl : wi.heap.size < (wi.alloc (.cells #[.string nm, .int .i64 lv] 129)).heap.size := by simp
              have hWq : bq < (wi.alloc (.cells #[.string nm, .int .i64 lv] 129)).heap.size := by simp; omega
              have hWo : wo.heap.size < (wi.alloc (.cells #[.string nm, .int .i64 lv] 129)).heap.size := by simp; omega
              obtain ⟨W, hW⟩ : ∃ W, wi.alloc (.cells #[.string nm, .int .i64 lv] 129) = W := ⟨_, rfl⟩
              rw [hW] at g0 g1 g2 g3 hBW hWl hWq hWo ⊢
              clear hW
              refine wp_region_held_drew (S := fun X => Below W.heap.size W X) (by kernel_rfl) (Below.drew (Below.refl _ _)) (fun hHeld => ?_)
              refine wpAnyH_take (i := 0) (v := ?_) rfl (by kernel_rfl) (by kernel_rfl) (by kernel_rfl) (fun _ _ _ h => h) (Or.inl ⟨by rfl, ?_⟩) (by assumption) ?_; rotate_left; · (intro wz hz; (have f0 := (hz.cell (p := ⟨wi.heap.size, 0, none⟩) hWl).trans g0; have f1 := (hz.cell (p := ⟨wi.heap.size, 1, none⟩) hWl).trans g1; have f2 := (hz.cell (p := ⟨bq, oq + j, none⟩) hWq).trans g2; have f3 := (hz.cell (p := ⟨wo.heap.size, 0, none⟩) hWo).trans g3); clear hz; go_simp; try with_reducible rfl); (try simp only [Act.put, List.getElem_toArray, List.getElem_cons_succ, List.getElem_cons_zero, List.setIfInBounds_toArray, List.set_cons_zero, List.set_cons_succ])
              refine wpAnyH_take (i := 1) (v := ?_) rfl (by kernel_rfl) (by kernel_rfl) (by kernel_rfl) (fun _ _ _ h => h) (Or.inl ⟨by rfl, ?_⟩) (by assumption) ?_; rotate_left; · (intro wz hz; (have f0 := (hz.cell (p := ⟨wi.heap.size, 0, none⟩) hWl).trans g0; have f1 := (hz.cell (p := ⟨wi.heap.size, 1, none⟩) hWl).trans g1; have f2 := (hz.cell (p := ⟨bq, oq + j, none⟩) hWq).trans g2; have f3 := (hz.cell (p := ⟨wo.heap.size, 0, none⟩) hWo).trans g3); clear hz; go_simp; try with_reducible rfl); (try simp only [Act.put, List.getElem_toArray, List.getElem_cons_succ, List.getElem_cons_zero, List.setIfInBounds_toArray, List.set_cons_zero, List.set_cons_succ])
              refine wpAnyH_take (i := 2) (v := ?_) rfl (by kernel_rfl) (by kernel_rfl) (by kernel_rfl) (fun _ _ _ h => h) (Or.inl ⟨by rfl, ?_⟩) (by assumption) ?_; rotate_left; · (intro wz hz; (have f0 := (hz.cell (p := ⟨wi.heap.size, 0, none⟩) hWl).trans g0; have f1 := (hz.cell (p := ⟨wi.heap.size, 1, none⟩) hWl).trans g1; have f2 := (hz.cell (p := ⟨bq, oq + j, none⟩) hWq).trans g2; have f3 := (hz.cell (p := ⟨wo.heap.size, 0, none⟩) hWo).trans g3); clear hz; go_simp; try with_reducible rfl); (try simp only [Act.put, List.getElem_toArray, List.getElem_cons_succ, List.getElem_cons_zero, List.setIfInBounds_toArray, List.set_cons_zero, List.set_cons_succ])
              refine wpAnyH_take (i := 3) (v := ?_) rfl (by kernel_rfl) (by kernel_rfl) (by kernel_rfl) (fun _ _ _ h => h) (Or.inl ⟨by rfl, ?_⟩) (by assumption) ?_; rotate_left; · (intro wz hz; (have f0 := (hz.cell (p := ⟨wi.heap.size, 0, none⟩) hWl).trans g0; have f1 := (hz.cell (p := ⟨wi.heap.size, 1, none⟩) hWl).trans g1; have f2 := (hz.cell (p := ⟨bq, oq + j, none⟩) hWq).trans g2; have f3 := (hz.cell (p := ⟨wo.heap.size, 0, none⟩) hWo).trans g3); clear hz; go_simp; try with_reducible rfl); (try simp only [Act.put, List.getElem_toArray, List.getElem_cons_succ, List.getElem_cons_zero, List.setIfInBounds_toArray, List.set_cons_zero, List.set_cons_succ])
              refine wpAnyH_take (i := 4) (v := ?_) rfl (by kernel_rfl) (by kernel_rfl) (by kernel_rfl) (fun _ _ _ h => h) (Or.inl ⟨by rfl, ?_⟩) (by assumption) ?_; rotate_left; · (intro wz hz; (have f0 := (hz.cell (p := ⟨wi.heap.size, 0, none⟩) hWl).trans g0; have f1 := (hz.cell (p := ⟨wi.heap.size, 1, none⟩) hWl).trans g1; have f2 := (hz.cell (p := ⟨bq, oq + j, none⟩) hWq).trans g2; have f3 := (hz.cell (p := ⟨wo.heap.size, 0, none⟩) hWo).trans g3); clear hz; go_simp; try with_reducible rfl); (try simp only [Act.put, List.getElem_toArray, List.getElem_cons_succ, List.getElem_cons_zero, List.setIfInBounds_toArray, List.set_cons_zero, List.set_cons_succ])
              refine wpAnyH_take (i := 5) (v := ?_) rfl (by kernel_rfl) (by kernel_rfl) (by kernel_rfl) (fun _ _ _ h => h) (Or.inl ⟨by rfl, ?_⟩) (by assumption) ?_; rotate_left; · (intro wz hz; (have f0 := (hz.cell (p := ⟨wi.heap.size, 0, none⟩) hWl).trans g0; have f1 := (hz.cell (p := ⟨wi.heap.size, 1, none⟩) hWl).trans g1; have f2 := (hz.cell (p := ⟨bq, oq + j, none⟩) hWq).trans g2; have f3 := (hz.cell (p := ⟨wo.heap.size, 0, none⟩) hWo).trans g3); clear hz; go_simp; try with_reducible rfl); (try simp only [Act.put, List.getElem_toArray, List.getElem_cons_succ, List.getElem_cons_zero, List.setIfInBounds_toArray, List.set_cons_zero, List.set_cons_succ])
              refine wpAnyH_ready (rs := [6]) (by kernel_rfl) (by simp) (AllReadyH.cons rfl (fun K hK => ?_) AllReadyH.nil); go_simp
              refine (kindOfSet_any _ _ _ _ ⟨l1, l2⟩).mono ?_
              rintro e wk ⟨rfl, hbk⟩
              refine hK.out _ _ (hHeld.trans (hbk.mono hHeld.size)) (fun hHeld2 => ?_)
              clear hK K
              (try simp only [Act.put, List.getElem_toArray, List.getElem_cons_succ, List.getElem_cons_zero, List.setIfInBounds_toArray, List.set_cons_zero, List.set_cons_succ])
              refine wpAnyH_take (i := 7) (v := ?_) rfl (by kernel_rfl) (by kernel_rfl) (by kernel_rfl) (fun _ _ _ h => h) (Or.inl ⟨by rfl, ?_⟩) (by assumption) ?_; rotate_left; · (intro wz hz; (skip); clear hz; go_simp; try with_reducible rfl); (try simp only [Act.put, List.getElem_toArray, List.getElem_cons_succ, List.getElem_cons_zero, List.setIfInBounds_toArray, List.set_cons_zero, List.set_cons_succ])
              refine wpAnyH_take (i := 8) (v := ?_) rfl (by kernel_rfl) (by kernel_rfl) (by kernel_rfl) (fun _ _ _ h => h) (Or.inl ⟨by rfl, ?_⟩) (by assumption) ?_; rotate_left; · (intro wz hz; (skip); clear hz; go_simp; try with_reducible rfl); (try simp only [Act.put, List.getElem_toArray, List.getElem_cons_succ, List.getElem_cons_zero, List.setIfInBounds_toArray, List.set_cons_zero, List.set_cons_succ])
              refine wpAnyH_take (i := 9) (v := undef) rfl (by kernel_rfl) (by kernel_rfl) (by kernel_rfl) (fun _ _ _ h => h) (Or.inr ⟨by rfl, rfl⟩) (by assumption) ?_; (try simp only [Act.put, List.getElem_toArray, List.getElem_cons_succ, List.getElem_cons_zero, List.setIfInBounds_toArray, List.set_cons_zero, List.set_cons_succ])
              refine wpAnyH_take (i := 10) (v := undef) rfl (by kernel_rfl) (by kernel_rfl) (by kernel_rfl) (fun _ _ _ h => h) (Or.inr ⟨by rfl, rfl⟩) (by assumption) ?_; (try simp only [Act.put, List.getElem_toArray, List.getElem_cons_succ, List.getElem_cons_zero, List.setIfInBounds_toArray, List.set_cons_zero, List.set_cons_succ])
              refine wpAnyH_take (i := 11) (v := undef) rfl (by kernel_rfl) (by kernel_rfl) (by kernel_rfl) (fun _ _ _ h => h) (Or.inr ⟨by rfl, rfl⟩) (by assumption) ?_; (try simp only [Act.put, List.getElem_toArray, List.getElem_cons_succ, List.getElem_cons_zero, List.setIfInBounds_toArray, List.set_cons_zero, List.set_cons_succ])
              refine wpAnyH_take (i := 12) (v := undef) rfl (by kernel_rfl) (by kernel_rfl) (by kernel_rfl) (fun _ _ _ h => h) (Or.inr ⟨by rfl, rfl⟩) (by assumption) ?_; (try simp only [Act.put, List.getElem_toArray, List.getElem_cons_succ, List.getElem_cons_zero, List.setIfInBounds_toArray, List.set_cons_zero, List.set_cons_succ])
              refine wpAnyH_take (i := 13) (v := ?_) rfl (by kernel_rfl) (by kernel_rfl) (by kernel_rfl) (fun _ _ _ h => h) (Or.inl ⟨by rfl, ?_⟩) (by assumption) ?_; rotate_left; · (intro wz hz; (skip); clear hz; go_simp; try with_reducible rfl); (try simp only [Act.put, List.getElem_toArray, List.getElem_cons_succ, List.getElem_cons_zero, List.setIfInBounds_toArray, List.set_cons_zero, List.set_cons_succ])
              refine wpAnyH_done (by kernel_rfl) ?_ _
              go_wp2_with fail
              go_meet
              exact ⟨by first | (rw [hres.out]; done) | (rw [hres.out]; simp; done), hBW.trans (hHeld2.mono hBW.size)⟩
            · have hkd : (kdZ lv xv' == 1) = true := by rw [kdZ_some ⟨e1, e2⟩ hfl]; rfl
              have hres : Hid ((!decide (xv' = flZ lv) && !I.contains (j : Int)) = !I.contains (j : Int)) := by unfold Hid; simp [hfl]
              replace hfl := Lib.hid hfl
              first | (go_region_held3 (fun w' => Below ((wi.alloc (.cells #[.string nm, .int .i64 lv] 129))).heap.size ((wi.alloc (.cells #[.string nm, .int .i64 lv] 129))) w' ∧ (∀ b o, b < ((wi.alloc (.cells #[.string nm, .int .i64 lv] 129))).heap.size → w'.cell? ⟨b, o, none⟩ = ((wi.alloc (.cells #[.string nm, .int .i64 lv] 129))).cell? ⟨b, o, none⟩)) (first | exact keep_of (Below.refl _ _) | ((try go_split_ands); exact keep_of (by repeat (first | exact Below.refl _ _ | assumption | refine Below.drew ?_ | refine below_drewN ?_ _ | refine Below.alloc' ?_ _ | (refine Below.setCell ?_ (by first | omega | (simp; done) | (simp; omega) | exact Below.size (by assumption) | exact Nat.le_trans (Below.size (by assumption)) (by simp)) _) | (refine Below.via' ?_ (by assumption)) | (refine Below.alloc ?_ (by first | omega | (simp; done) | (simp; omega) | exact Below.size (by assumption) | exact Nat.le_trans (Below.size (by assumption)) (by simp)) _) | (refine Below.via ?_ (by assumption) (by first | omega | (simp; done) | (simp; omega) | exact Below.size (by assumption) | exact Nat.le_trans (Below.size (by assumption)) (by simp))))))) ((first | (go_at_call 148; refine (kindOfSet_any _ _ _ _ ⟨l1, l2⟩).mono ?_; rintro e wk ⟨rfl, hbk⟩) | (go_at_call 149; refine (contains_any _ _ I (j : Int) _ (hIi.out.below (by exact (by repeat (first | exact Below.refl _ _ | assumption | refine Below.drew ?_ | refine below_drewN ?_ _ | refine Below.alloc' ?_ _ | (refine Below.setCell ?_ (by first | omega | (simp; done) | (simp; omega) | exact Below.size (by assumption) | exact Nat.le_trans (Below.size (by assumption)) (by simp)) _) | (refine Below.via' ?_ (by assumption)) | (refine Below.alloc ?_ (by first | omega | (simp; done) | (simp; omega) | exact Below.size (by assumption) | exact Nat.le_trans (Below.size (by assumption)) (by simp)) _) | (refine Below.via ?_ (by assumption) (by first | omega | (simp; done) | (simp; omega) | exact Below.size (by assumption) | exact Nat.le_trans (Below.size (by assumption)) (by simp)))))))).mono ?_; rintro e wk2 ⟨rfl, rfl⟩))); rename_i hH; obtain ⟨hb3, hcl3⟩ := hH; have hz3 := hb3.size; (try simp at hz3); (try (have hly3 := Nat.lt_of_succ_le hz3)); (try (have hlx3 := Nat.lt_of_succ_lt hly3)); (try (have hlw3 := Nat.lt_of_succ_lt hlx3)); (try (have hle3 := Nat.le_of_lt hly3)); (try (have hya3 : w.heap.size < w3.heap.size := by omega)); (try (have hyb3 : w.heap.size + 1 < w3.heap.size := by omega)); (try (have hyc3 : w.heap.size + 1 + 1 < w3.heap.size := by omega)); (try (have hyd3 : wa.heap.size < w3.heap.size := by omega))) | fail
              go_wp2_with fail
              go_meet
              exact ⟨by first | (rw [hres.out]; done) | (rw [hres.out]; simp; done), (by repeat (first | exact Below.refl _ _ | assumption | refine Below.drew ?_ | refine below_drewN ?_ _ | refine Below.alloc' ?_ _ | (refine Below.setCell ?_ (by first | omega | (simp; done) | (simp; omega) | exact Below.size (by assumption) | exact Nat.le_trans (Below.size (by assumption)) (by simp)) _) | (refine Below.via' ?_ (by assumption)) | (refine Below.alloc ?_ (by first | omega | (simp; done) | (simp; omega) | exact Below.size (by assumption) | exact Nat.le_trans (Below.size (by assumption)) (by simp)) _) | (refine Below.via ?_ (by assumption) (by first | omega | (simp; done) | (simp; omega) | exact Below.size (by assumption) | exact Nat.le_trans (Below.size (by assumption)) (by simp)))))⟩
          obtain ⟨rfl, hbz⟩ := hcut
          obtain ⟨wz, rfl⟩ : ∃ x : World, x = wc := ⟨_, rfl⟩
          have hbr2 : Below wo.heap.size wo wz := hbrh.out.trans (hbz.mono hbrh.out.size)
          have hbx2 := Lib.hid (boxed_below hbxh.out hbz)
          clear d0 d1 d2 d3
          cases hcv : (!decide (xv' = flZ lv) && !I.contains (j : Int))
          · have hst : Hid (ivB S qL j = true → I.contains (j : Int) = true) := by
              unfold Hid
              intro hiv
              rw [hivh.out, decide_eq_true_eq] at hiv
              cases hc : I.contains (j : Int)
              · rw [hc, decide_eq_false hiv] at hcv
                cases hcv
              · rfl
            replace hcv := Lib.hid hcv
            go_wp2
            go_roundw
            case rel =>
              refine ⟨j + 1, by omega, by go_num, fun k hk h => ?_, hbx2.out, hbr2⟩
              rcases Nat.lt_or_ge k j with hk2 | hk2
              · exact hall.out k hk2 h
              · obtain rfl : k = j := by omega
                exact hst.out h
            case measure => simp [intOf]; omega
          · have hn : Hid (eoB S I qL = false) := by
              rw [Bool.and_eq_true] at hcv
              exact eo_hit hjl (by rw [hivh.out]; simpa using hcv.1) (by simpa using hcv.2)
            have hnx := Lib.hid (eoQ_no hTqh.out hn.out)
            replace hcv := Lib.hid hcv
            go_wp2
            refine ⟨⟨i + 1, by omega, by push_cast; rfl, by rw [hnx.out]; exact own_below hownh.out hbr2, hBrh.out.trans (hbr2.mono hszr)⟩, ?_⟩
            simp [intOf]
            omega
        · have hij : j = S.length := by omega
          have hy : Hid (eoB S I qL = true) := eo_all fun k hk h => hall.out k (by omega) h
          have hnx := Lib.hid (eoQ_yes hTqh.out hy.out)
          have hown4 := Lib.hid (own_below hownh.out hbr)
          have hB34 : Below w3.heap.size w3 wi := hBrh.out.trans (hbr.mono hszr)
          have hs34 := hB34.size
          have hs04 := hbr.size
          have d3 := hbx.cell
          have hxlt := hbx.lt
          subst hij
          clear hall hbr hbx
          go_wp2_with (at_builtin; go_loud (refine wpList_append_rd _ rfl (.tmp 58) (.tmp 60) 83 rfl (w3.heap.size) 153 j0 (.agg #[.slice none 0 0]) 1 24 Try.underlying83 hif hy0 hy1 hy2 rfl (by decide) _ (eoQ S I T i).length (eC (eoQ S I T i)) rfl ((hown4.out.alloc _)) _ 1 1 rfl (Nat.le_refl _) (by intro h; cases h) (eC [(⟨qa, qh, qx, qc, qL⟩ : PR)]) rfl (Rd.oneEdM _ _ _ _ _ _ (by simp)) (eC_one _) (by unfold maxLen; omega) (by omega) (by simp; omega) ?_); intro v7 w7 hown7 hgrow7 hwhere7)
          obtain ⟨hb8, -⟩ := append_below hB34 (fun k hk => (hown4.out.lt k hk).1) hgrow7 hwhere7
          have hown8 : Hid (w7.ownsRow w3.heap.size 153 1 v7 (eoQ S I T (i + 1)).length (eC (eoQ S I T (i + 1)))) := by
            unfold Hid
            rw [hnx.out, eC_app, List.length_append]
            exact hown7
          clear hgrow7 hwhere7 hown7
          go_wp2
          go_roundw
          case rel => exact ⟨i + 1, by omega, by go_num, hown8.out, hb8⟩
          case measure => simp [intOf]; omega
    · have hij : i = T.length := by omega
      subst hij
      have hfin : Hid (eM (eoQ S I T T.length) = eoL S (eM Q) I) := by unfold Hid; rw [eoQ_eM, hMh.out]; rfl
      have hBr2 := B3.trans (hBr.mono hs3)
      have hres := Lib.hid (ho3.out.pick (eoQ_sub S I T T.length) hBr hown.out hs3)
      clear hBr
      go_wp2
      go_ret2
      exact retEL_yes hv.out hfin.out hres.out hBr2
theorem sEO_m (x y f : Option Addr) (c1 c2 c3 : Nat) (S : List (ByteArray × Int)) (Q : List PR) (I : List Int) (w : World) (hS : SIn w x c1 S) (hQ : EIn w y Q) (hI : IIn w f I) (M : List (List Int)) (hM : eM Q = M) :
    Calls Try.prog 67 #[.slice x S.length c1, .slice y Q.length c2, .slice f I.length c3] w (RetEL (eE (eoG S M I) (eoL S M I)) (eoG S M I) w) := by subst hM; exact sEO_x x y f c1 c2 c3 S Q I w hS hQ hI
theorem iEO_m (x y f : Option Addr) (c1 c2 c3 : Nat) (S : List (ByteArray × Int)) (Q : List PR) (I : List Int) (w : World) (hS : SIn w x c1 S) (hQ : EIn w y Q) (hI : IIn w f I) (M : List (List Int)) (hM : eM Q = M) :
    Calls Try.prog 68 #[.slice x S.length c1, .slice y Q.length c2, .slice f I.length c3] w (RetEL (eE (eoG S M I) (eoL S M I)) (eoG S M I) w) := by subst hM; exact iEO_x x y f c1 c2 c3 S Q I w hS hQ hI
end Go.Proofs.Ytnmpigedhpdenab

namespace Go.Proofs.Ytnmpigedhpdenab
open Go.RowKit
set_option maxRecDepth 100000

/-- The edits that are marked from k on. -/
def mE (k : Int) : List PR → List PR
  | [] => []
  | q :: r => ⟨q.a, q.h, q.x, q.c, mkL k q.L.length⟩ :: mE (k + q.L.length) r
theorem mE_len : ∀ (k : Int) (Q : List PR), (mE k Q).length = Q.length
  | _, [] => rfl
  | k, q :: r => by simp [mE, mE_len _ r]
theorem mE_app : ∀ (k : Int) (Q T : List PR), mE k (Q ++ T) = mE k Q ++ mE (k + tot Q) T
  | k, [], T => by simp [mE, tot]
  | k, q :: r, T => by
    simp only [List.cons_append, mE, mE_app _ r T]
    congr 3
    unfold tot
    simp only [List.map_cons, List.sum_cons]
    omega
theorem mE_step (k : Int) {Q : List PR} {i : Nat} {q : PR} (h : Q[i]? = some q) (hi : i < Q.length) :
    mE k (Q.take (i + 1)) ++ Q.drop (i + 1) = (mE k (Q.take i) ++ Q.drop i).set i ⟨q.a, q.h, q.x, q.c, mkL (k + tot (Q.take i)) q.L.length⟩ := by
  have hl : (mE k (Q.take i)).length = i := by rw [mE_len, List.length_take]; omega
  have hd : Q.drop i = q :: Q.drop (i + 1) := by
    rw [List.drop_eq_getElem_cons hi]
    rw [List.getElem?_eq_getElem hi] at h
    injection h with h
    rw [h]
  rw [List.set_append_right _ _ (by omega), hl, Nat.sub_self, hd, List.set_cons_zero, take_snoc h, mE_app, List.append_assoc]
  rfl
theorem mE_at (k : Int) {Q : List PR} {i : Nat} {q : PR} (h : Q[i]? = some q) (hi : i < Q.length) :
    (mE k Q)[i]? = some ⟨q.a, q.h, q.x, q.c, mkL (k + tot (Q.take i)) q.L.length⟩ := by
  have hl : (mE k (Q.take i)).length = i := by rw [mE_len, List.length_take]; omega
  have e : mE k Q = mE k (Q.take (i + 1)) ++ mE (k + tot (Q.take (i + 1))) (Q.drop (i + 1)) := by rw [← mE_app, List.take_append_drop]
  rw [e, List.getElem?_append_left (by rw [mE_len, List.length_take]; omega), take_snoc h, mE_app, List.getElem?_append_right (by omega), hl, Nat.sub_self]
  rfl
theorem eC_setL : ∀ (Q : List PR) (i : Nat) (q : PR) (M : List Int), Q[i]? = some q → M.length = q.L.length → eC (Q.set i ⟨q.a, q.h, q.x, q.c, M⟩) = eC Q
  | [], i, q, M, h, _ => by simp at h
  | p :: r, 0, q, M, h, hl => by simp at h; subst h; simp [eC, PR.v, hl]
  | p :: r, i + 1, q, M, h, hl => by
    simp only [List.getElem?_cons_succ] at h
    have := eC_setL r i q M h hl
    unfold eC at this ⊢
    simp only [List.set_cons_succ, List.map_cons, this]
section
variable {w w1 : World} {lo hi : Nat} {te ti : TypeId} {Q : List PR} {i g c : Nat} {q : PR}
/-- The row of edit i is written. -/
theorem OwE.turn {M : List Int} (h : OwE w lo hi te ti (.slice (some ⟨g, 0, none⟩) Q.length c) Q) (hq : Q[i]? = some q) (hl : M.length = q.L.length) (hr : w1.ownsRow lo ti 1 q.v q.L.length (iC M)) (hg : w.grownBy w1 q.v.ownBlock) :
    OwE w1 lo hi te ti (.slice (some ⟨g, 0, none⟩) (Q.set i ⟨q.a, q.h, q.x, q.c, M⟩).length c) (Q.set i ⟨q.a, q.h, q.x, q.c, M⟩) := by
  obtain ⟨h1, h2, h3⟩ := h
  have hmem := List.mem_of_getElem? hq
  have hpv : (PR.mk q.a q.h q.x q.c M).v = q.v := by unfold PR.v; rw [hl]
  refine ⟨⟨?_, fun k hk => h1.2 k hk⟩, ⟨fun r hr2 => ?_, ?_⟩, fun r hr2 k hk => ?_⟩
  · rw [List.length_set, eC_setL Q i q M hq hl]
    refine h1.1.kept hg (Or.inr fun e => h3 q hmem g rfl ?_)
    rw [← e]; rfl
  · rcases mem_set_cases hr2 with rfl | ⟨j, hji, hj⟩
    · rw [hpv]; exact ⟨by rw [hl]; exact hr, (h2.1 q hmem).2⟩
    · have hrm := List.mem_of_getElem? hj
      refine ⟨(h2.1 r hrm).1.kept hg ?_, (h2.1 r hrm).2⟩
      cases hb : r.v.ownBlock with
      | none => exact Or.inl rfl
      | some k => exact Or.inr fun e => blk_ne h2.2 hq hj hji e.symm hb
  · rw [blk_set hq (by rw [hpv])]; exact h2.2
  · rcases mem_set_cases hr2 with rfl | ⟨j, _, hj⟩
    · rw [hpv]; exact h3 q hmem k hk
    · exact h3 r (List.mem_of_getElem? hj) k hk
end
set_option maxHeartbeats 4000000 in
theorem markEditS_any (x : Option Addr) (cap : Nat) (k : Int) (lo hi : Nat) (Q : List PR) (w : World) (hk : 0 ≤ k) (hk2 : k ≤ 1000000000) (hn : Q.length ≤ 1048576) (ht : tot Q ≤ 1048576) (hown : OwE w lo hi 153 3 (.slice x Q.length cap) Q) :
    Calls Try.prog 66 #[.slice x Q.length cap, .int .i64 k] w fun e w' => e = .returned (.int .i64 (k + tot Q)) ∧ OwE w' lo hi 153 3 (.slice x Q.length cap) (mE k Q) ∧ Off lo hi w w' := by
  by_cases h0 : Q.length = 0
  · obtain rfl : Q = [] := List.eq_nil_of_length_eq_zero h0
    have hown := Lib.hid hown
    go_enter Try.func66, Try.ntmps66
    go_wp2
    refine wp_loop_rounds 1 ?_
    rw [rounds_succ]
    go_wp2
    go_ret
    exact ⟨ret_int (by simp [tot]), hown.out, Off.refl _ _ _⟩
  obtain ⟨g, cap', he⟩ := own_some hown.1.1 (by omega)
  injection he with hx _ hc
  subst hx hc
  have hown0 := Lib.hid hown
  clear hown
  go_enter Try.func66, Try.ntmps66
  go_wp2
  go_loopw [1, 5] (fun q c wr => ∃ i : Nat, i ≤ Q.length ∧ c = .int .i64 i ∧ q = .int .i64 (k + tot (Q.take i)) ∧ Hid (OwE wr lo hi 153 3 (.slice (some ⟨g, 0, none⟩) (mE k (Q.take i) ++ Q.drop i).length cap) (mE k (Q.take i) ++ Q.drop i)) ∧ Off lo hi w wr) (fun _ c _ => Q.length - (intOf c).toNat)
  case atStart => exact ⟨0, by omega, rfl, (by rw [tot0]; go_num), (by unfold Hid; simpa [mE] using hown0.out), Off.refl _ _ _⟩
  case round =>
    clear hown0
    obtain ⟨i, hil, rfl, rfl, hown, hb⟩ := hrel
    have hzl : (mE k (Q.take i) ++ Q.drop i).length = Q.length := by rw [List.length_append, mE_len, List.length_take, List.length_drop]; omega
    by_cases hlt : i < Q.length
    · obtain ⟨q, hq⟩ : ∃ q, Q[i]? = some q := ⟨Q[i], List.getElem?_eq_getElem hlt⟩
      have hZ : (mE k (Q.take i) ++ Q.drop i)[i]? = some q := by
        rw [List.getElem?_append_right (by rw [mE_len, List.length_take]; omega), mE_len, List.length_take, Nat.min_eq_left (by omega), Nat.sub_self, List.getElem?_drop, Nat.add_zero, hq]
      have hstep := Lib.hid (mE_step k hq hlt)
      have htt := tot_take hq
      have htl : tot (Q.take (i + 1)) ≤ tot Q := by
        conv => rhs; rw [← List.take_append_drop (i + 1) Q]
        unfold tot
        rw [List.map_append, List.sum_append]
        omega
      generalize hZe : mE k (Q.take i) ++ Q.drop i = Z at hown hZ hzl hstep
      have hti : tot (Q.take i) ≤ 1048576 := by omega
      generalize htie : tot (Q.take i) = t at *
      have hql : q.L.length ≤ 1048576 := by omega
      have ho0 := hown.out.1.1
      rw [hzl] at ho0
      obtain ⟨u0, hu0, k0⟩ := own_cell ho0 (j := i) (by omega)
      have e2 : u0 = .slice q.x q.L.length q.c := Option.some.inj (hu0.symm.trans (eC_at hZ))
      subst e2
      have k4 := (own_lt ho0).2
      have hin := Lib.hid (hown.out.1.2 g rfl)
      clear hu0 ho0
      replace hZ := Lib.hid hZ
      replace hq := Lib.hid hq
      have hlt' : (i : Int) < (Q.length : Int) := by omega
      go_wp2_with fail
      refine (markIntS_any _ _ _ _ lo _ _ (by omega) (by omega) hql (hown.out.2.1.1 _ (List.mem_of_getElem? hZ.out)).1).mono ?_
      rintro e w2 ⟨rfl, hm2, hg2⟩
      have P2 := Lib.hid (hown.out.turn hZ.out (by rw [mkL_len]) hm2 hg2)
      have hbl := Lib.hid ((hown.out.2.1.1 _ (List.mem_of_getElem? hZ.out)).2)
      go_wp2
      go_roundw
      case rel =>
        refine ⟨i + 1, by omega, by go_num, ?_, ?_, ?_⟩
        · rw [htt]
          congr 1
          push_cast
          omega
        · rw [hstep.out]
          exact P2.out
        · exact hb.trans (Off.of_grown hg2 (fun k hk => hbl.out k hk))
      case measure => simp [intOf]; omega
    · have hij : i = Q.length := by omega
      subst hij
      have hown := Lib.hid (show OwE wr lo hi 153 3 (.slice (some ⟨g, 0, none⟩) Q.length cap) (mE k Q) from by simpa [mE_len] using hown.out)
      rw [List.take_length]
      clear hzl
      go_wp2
      go_ret
      exact ⟨rfl, hown.out, hb⟩

set_option maxHeartbeats 4000000 in
theorem heldEditS_any (x : Option Addr) (cap : Nat) (k : Int) (Q : List PR) (w : World) (hk : 0 ≤ k) (hk2 : k ≤ 1000000000) (hn : Q.length ≤ 1048576) (ht : tot Q ≤ 1048576) (hx : Rd w x (eC (mE k Q))) (hxi : ∀ q ∈ mE k Q, Rd w q.x (iC q.L)) :
    Calls Try.prog 69 #[.slice x Q.length cap, .int .i64 k] w fun e w' => e = .returned (.int .i64 (k + tot Q)) ∧ Below w.heap.size w w' := by
  have hxh := Lib.hid hx
  have hih := Lib.hid hxi
  clear hx hxi
  go_enter Try.func69, Try.ntmps69
  go_wp2
  go_loopw [1, 5] (fun q c wr => ∃ i : Nat, i ≤ Q.length ∧ c = .int .i64 i ∧ q = .int .i64 (k + tot (Q.take i)) ∧ Below w.heap.size w wr) (fun _ c _ => Q.length - (intOf c).toNat)
  case atStart => exact ⟨0, by omega, rfl, (by rw [tot0]; go_num), Below.refl _ _⟩
  case round =>
    obtain ⟨i, hi, rfl, rfl, hb⟩ := hrel
    by_cases hlt : i < Q.length
    · obtain ⟨q, hq⟩ : ∃ q, Q[i]? = some q := ⟨Q[i], List.getElem?_eq_getElem hlt⟩
      have htt := tot_take hq
      have htl : tot (Q.take (i + 1)) ≤ tot Q := by
        conv => rhs; rw [← List.take_append_drop (i + 1) Q]
        unfold tot
        rw [List.map_append, List.sum_append]
        omega
      have hma := mE_at k hq hlt
      generalize htie : tot (Q.take i) = t at *
      obtain ⟨bl, off, p, hbx, hbl, hSi, hc0⟩ := (hxh.out.below hb).ed (i := i) (by rw [mE_len]; exact hlt)
      have hrd := Lib.hid ((hih.out p (List.mem_of_getElem? hSi)).below hb)
      obtain rfl := Option.some.inj (hSi.symm.trans hma)
      simp only [mkL_len] at hc0 hrd
      subst hbx
      clear hSi hma
      replace hq := Lib.hid hq
      have hql : q.L.length ≤ 1048576 := by omega
      have hlt' : (i : Int) < (Q.length : Int) := by omega
      have hi0 : (0 : Int) ≤ (i : Int) := by omega
      have hkk : ¬ (k + (t : Int) + (q.L.length : Int) < 0) := by omega
      go_wp2_with fail
      refine (heldIntS_any _ _ _ _ _ (by omega) (by omega) hql (hrd.out.below (by exact (by repeat (first | exact Below.refl _ _ | assumption | refine Below.drew ?_ | refine below_drewN ?_ _ | refine Below.alloc' ?_ _ | (refine Below.setCell ?_ (by first | omega | (simp; done) | (simp; omega) | exact Below.size (by assumption) | exact Nat.le_trans (Below.size (by assumption)) (by simp)) _) | (refine Below.via' ?_ (by assumption)) | (refine Below.alloc ?_ (by first | omega | (simp; done) | (simp; omega) | exact Below.size (by assumption) | exact Nat.le_trans (Below.size (by assumption)) (by simp)) _) | (refine Below.via ?_ (by assumption) (by first | omega | (simp; done) | (simp; omega) | exact Below.size (by assumption) | exact Nat.le_trans (Below.size (by assumption)) (by simp)))))))).mono ?_
      rintro e w2 ⟨rfl, rfl⟩
      go_wp2
      go_roundw
      case rel =>
        refine ⟨i + 1, by omega, by go_num, ?_, (by repeat (first | exact Below.refl _ _ | assumption | refine Below.drew ?_ | refine below_drewN ?_ _ | refine Below.alloc' ?_ _ | (refine Below.setCell ?_ (by first | omega | (simp; done) | (simp; omega) | exact Below.size (by assumption) | exact Nat.le_trans (Below.size (by assumption)) (by simp)) _) | (refine Below.via' ?_ (by assumption)) | (refine Below.alloc ?_ (by first | omega | (simp; done) | (simp; omega) | exact Below.size (by assumption) | exact Nat.le_trans (Below.size (by assumption)) (by simp)) _) | (refine Below.via ?_ (by assumption) (by first | omega | (simp; done) | (simp; omega) | exact Below.size (by assumption) | exact Nat.le_trans (Below.size (by assumption)) (by simp)))))⟩
        rw [htt]
        congr 1
        push_cast
        omega
      case measure => simp [intOf]; omega
    · have hij : i = Q.length := by omega
      subst hij
      rw [List.take_length]
      go_wp2
      go_ret
      exact ⟨rfl, hb⟩
end Go.Proofs.Ytnmpigedhpdenab
