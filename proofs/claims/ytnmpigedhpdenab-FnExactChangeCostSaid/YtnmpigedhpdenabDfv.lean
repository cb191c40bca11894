/-
  Chapter 6: the variables in which two lists of values differ: the program's walk.
-/
import Derived.Test.YtnmpigedhpdenabEdV
import Derived.Deep.DeepCutAuto
namespace Go.Proofs.Ytnmpigedhpdenab
open Go.RowKit
set_option maxRecDepth 100000

/-- The variables in which two lists of values differ. -/
def dvB (V X : List Int) (i : Nat) : Bool := !decide (V[i]? = X[i]?)
def dvL (V X : List Int) : List Int := pkUp (dvB V X) V.length
theorem dvL_len (V X : List Int) : (dvL V X).length ≤ V.length := pkUp_len _ _
theorem pk_iinW {w : World} {x : Option Addr} {p : Nat → Bool} {n : Nat} (hn : n ≤ 1000) (h : Rd w x (iC (pkUp p n))) : IIn w x (pkUp p n) := ⟨by have := pkUp_len p n; omega, fun v hv => by
  obtain ⟨i, rfl, hi, _⟩ := pkUp_mem hv
  unfold IsI64
  omega, h⟩
theorem pk_iin {w : World} {x : Option Addr} {p : Nat → Bool} {n : Nat} (hn : n ≤ 1000) (h : Rd w x (iC (pkUp p n))) : IIn w x (pkUp p n) := ⟨by have := pkUp_len p n; omega, fun v hv => by
  obtain ⟨i, rfl, hi, _⟩ := pkUp_mem hv
  unfold IsI64
  omega, h⟩
set_option maxHeartbeats 2000000 in
theorem differing_any (y z : Option Addr) (c1 c2 : Nat) (V X : List Int) (w : World) (hl : V.length = X.length) (h6 : V.length ≤ 1000) (hV : IIn w y V) (hX : IIn w z X) :
    Calls Try.prog 153 #[.slice y V.length c1, .slice z X.length c2] w (RetL (dvL V X) w) := by
  obtain ⟨i0, hii, hz0, hz1, hz2⟩ := info_parts Try.infoInt
  have hVh := Lib.hid hV
  have hXh := Lib.hid hX
  have hlh := Lib.hid hl
  clear hV hX hl
  go_enter Try.func153, Try.ntmps153
  go_wp2
  go_loopw [5, 9] (fun u c wr => ∃ i : Nat, i ≤ V.length ∧ c = .int .i64 i ∧ wr.ownsRow w.heap.size 3 1 u (pkUp (dvB V X) i).length (iC (pkUp (dvB V X) i)) ∧ Below w.heap.size w wr) (fun _ c _ => V.length - (intOf c).toNat)
  case atStart => exact ⟨0, by omega, rfl, World.ownsRow_nil _ _ _ _, (by repeat (first | exact Below.refl _ _ | assumption | refine Below.drew ?_ | refine below_drewN ?_ _ | refine Below.alloc' ?_ _ | (refine Below.setCell ?_ (by first | omega | (simp; done) | (simp; omega) | exact Below.size (by assumption) | exact Nat.le_trans (Below.size (by assumption)) (by simp)) _) | (refine Below.via' ?_ (by assumption)) | (refine Below.alloc ?_ (by first | omega | (simp; done) | (simp; omega) | exact Below.size (by assumption) | exact Nat.le_trans (Below.size (by assumption)) (by simp)) _) | (refine Below.via ?_ (by assumption) (by first | omega | (simp; done) | (simp; omega) | exact Below.size (by assumption) | exact Nat.le_trans (Below.size (by assumption)) (by simp)))))⟩
  case round =>
    obtain ⟨i, hi, rfl, hown, hBr⟩ := hrel
    have hownh := Lib.hid hown
    clear hown
    have hsl := pkUp_len (dvB V X) i
    by_cases hlt : i < V.length
    · obtain ⟨bl, off, a, rfl, hbl, hVi, hc0⟩ := (hVh.out.below hBr).2.2.int hlt
      obtain ⟨bl2, off2, d, rfl, hbl2, hXi, hc1⟩ := (hXh.out.below hBr).2.2.int (i := i) (by have := hlh.out; omega)
      have hlt' : (i : Int) < (V.length : Int) := by omega
      have hlt2 : (i : Int) < (X.length : Int) := by have := hlh.out; omega
      have hi0 : (0 : Int) ≤ (i : Int) := by omega
      by_cases he : a = d
      · have hsel : Hid (pkUp (dvB V X) (i + 1) = pkUp (dvB V X) i) := pkUp_no (by unfold dvB; rw [hVi, hXi, he]; simp)
        have heb : (a == d) = true := by rw [beq_iff_eq]; exact he
        replace he := Lib.hid he
        replace hVi := Lib.hid hVi
        replace hXi := Lib.hid hXi
        go_wp2
        go_region
        all_goals
          go_wp2
          go_roundw
          case rel => exact ⟨i + 1, by omega, by go_num, by rw [hsel.out]; exact hownh.out, (by repeat (first | exact Below.refl _ _ | assumption | refine Below.drew ?_ | refine below_drewN ?_ _ | refine Below.alloc' ?_ _ | (refine Below.setCell ?_ (by first | omega | (simp; done) | (simp; omega) | exact Below.size (by assumption) | exact Nat.le_trans (Below.size (by assumption)) (by simp)) _) | (refine Below.via' ?_ (by assumption)) | (refine Below.alloc ?_ (by first | omega | (simp; done) | (simp; omega) | exact Below.size (by assumption) | exact Nat.le_trans (Below.size (by assumption)) (by simp)) _) | (refine Below.via ?_ (by assumption) (by first | omega | (simp; done) | (simp; omega) | exact Below.size (by assumption) | exact Nat.le_trans (Below.size (by assumption)) (by simp)))))⟩
          case measure => simp [intOf]; omega
      · have hsel : Hid (pkUp (dvB V X) (i + 1) = pkUp (dvB V X) i ++ [(i : Int)]) := pkUp_yes (by unfold dvB; rw [hVi, hXi]; simp [he])
        have heb : (a == d) = false := by rw [beq_eq_false_iff_ne]; exact he
        replace he := Lib.hid he
        replace hVi := Lib.hid hVi
        replace hXi := Lib.hid hXi
        go_wp2
        go_upto_region 5 with fail
        go_cut [20] (fun s20 wx => s20 = .bool true ∧ Hid (wx.ownsRow w.heap.size 3 1 u5 (pkUp (dvB V X) i).length (iC (pkUp (dvB V X) i))) ∧ Below w.heap.size w wx)
        case first =>
          go_region
          all_goals
            go_wp2_with fail
            go_meet
            exact ⟨by rw [bne, heb]; rfl, hownh.out, (by repeat (first | exact Below.refl _ _ | assumption | refine Below.drew ?_ | refine below_drewN ?_ _ | refine Below.alloc' ?_ _ | (refine Below.setCell ?_ (by first | omega | (simp; done) | (simp; omega) | exact Below.size (by assumption) | exact Nat.le_trans (Below.size (by assumption)) (by simp)) _) | (refine Below.via' ?_ (by assumption)) | (refine Below.alloc ?_ (by first | omega | (simp; done) | (simp; omega) | exact Below.size (by assumption) | exact Nat.le_trans (Below.size (by assumption)) (by simp)) _) | (refine Below.via ?_ (by assumption) (by first | omega | (simp; done) | (simp; omega) | exact Below.size (by assumption) | exact Nat.le_trans (Below.size (by assumption)) (by simp)))))⟩
        obtain ⟨rfl, ow, hBx⟩ := hcut
        obtain ⟨wx, rfl⟩ : ∃ x : World, x = wc := ⟨_, rfl⟩
        clear hc0 hc1 hbl hbl2 hownh hBr
        have hlow := hBx.size
        go_wp2_with (at_builtin; go_loud (refine wpList_append_rd _ rfl (.tmp 21) (.tmp 23) 23 rfl (w.heap.size) 3 i0 (.int .i64 0) 1 8 Try.underlying23 hii hz0 hz1 hz2 rfl (by decide) _ (pkUp (dvB V X) i).length (iC (pkUp (dvB V X) i)) rfl ((ow.out.alloc _)) _ 1 1 rfl (Nat.le_refl _) (by intro h; cases h) (iC [((i : Int) : Int)]) rfl (rd_oneE _ _ _ _ (by simp)) (iC_one _) (by unfold maxLen; omega) (by omega) (by simp; omega) ?_); intro v3 w3 hown3 hgrow3 hwhere3)
        obtain ⟨hb4, -⟩ := append_below hBx (fun k hk => (ow.out.lt k hk).1) hgrow3 hwhere3
        have hown3 := Lib.hid (own_snocE hown3 hsel.out rfl)
        clear hgrow3 hwhere3
        go_wp2
        go_roundw
        case rel => exact ⟨i + 1, by omega, by go_num, hown3.out, hb4⟩
        case measure => simp [intOf]; omega
    · have hij : i = V.length := by omega
      subst hij
      go_wp2
      go_ret
      exact ⟨_, rfl, hownh.out, hBr⟩
end Go.Proofs.Ytnmpigedhpdenab
