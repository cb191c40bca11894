/-
  The walks of chapter 4: levels, children, leaves; the program's and the model's.
-/
import Derived.Test.YtmefkknkahmihaaGeoD
namespace Go.Proofs.Ytmefkknkahmihaa
open Go.RowKit
set_option maxRecDepth 100000

theorem own_snoc {w : World} {base e k : Nat} {u : Value} {L M : List Int} {a : Int} (h : w.ownsRow base e 1 u (L.length + 1) (iC L ++ iC [a])) (hk : M = L ++ [a]) (hn : k = M.length) : w.ownsRow base e 1 u k (iC M) := by
  subst hk hn
  rw [iC_appG, List.length_append]
  exact h
set_option maxHeartbeats 2000000 in
theorem areasWith_any (x : Option Addr) (c : Nat) (L : List Int) (n : Int) (w : World) (hm : L.length ≤ 1048576) (hL : Rd w x (iC L)) :
    Calls Try.prog 37 #[.slice x L.length c, .int .i64 n] w (RetG (awL L n) w) := by
  obtain ⟨i0, hii, hz0, hz1, hz2⟩ := info_parts Try.infoInt
  have hLh := Lib.hid hL
  clear hL
  go_enter Try.func37, Try.ntmps37
  go_wp2
  go_loopw [5, 10] (fun u q wr => ∃ i : Nat, i ≤ L.length ∧ q = .int .i64 i ∧ wr.ownsRow w.heap.size 3 1 u (selK (eqP L n) i).length (iC (selK (eqP L n) i)) ∧ Below w.heap.size w wr) (fun _ q _ => L.length - (intOf q).toNat)
  case atStart => exact ⟨0, by omega, by go_num, World.ownsRow_nil _ _ _ _, (by repeat (first | exact Below.refl _ _ | assumption | refine Below.drew ?_ | refine below_drewN ?_ _ | refine Below.alloc' ?_ _ | (refine Below.setCell ?_ (by first | omega | (simp; done) | (simp; omega) | exact Below.size (by assumption) | exact Nat.le_trans (Below.size (by assumption)) (by simp)) _) | (refine Below.via' ?_ (by assumption)) | (refine Below.alloc ?_ (by first | omega | (simp; done) | (simp; omega) | exact Below.size (by assumption) | exact Nat.le_trans (Below.size (by assumption)) (by simp)) _) | (refine Below.via ?_ (by assumption) (by first | omega | (simp; done) | (simp; omega) | exact Below.size (by assumption) | exact Nat.le_trans (Below.size (by assumption)) (by simp)))))⟩
  case round =>
    obtain ⟨i, hi, rfl, hown, hb⟩ := hrel
    have hownh := Lib.hid hown
    clear hown
    have hsl := sel_len (eqP L n) i
    by_cases hlt : i < L.length
    · obtain ⟨bl, off, v, rfl, hbl, hLi, hc0⟩ := (hLh.out.below hb).int hlt
      have hlt' : (i : Int) < (L.length : Int) := by omega
      have he := eqP_at (n := n) hLi
      replace hLi := Lib.hid hLi
      by_cases hvn : v = n
      · have ht : (v == n) = true := by rw [beq_iff_eq]; exact hvn
        have hsel := Lib.hid (sel_yes (p := eqP L n) (k := i) (by rw [he]; exact decide_eq_true hvn))
        replace hvn := Lib.hid hvn
        clear he
        have hs0 := hb.size
        go_wp2_with (at_builtin; go_loud (refine wpList_append_rd _ rfl (.tmp 18) (.tmp 20) 24 rfl (w.heap.size) 3 i0 (.int .i64 0) 1 8 Try.underlying24 hii hz0 hz1 hz2 rfl (by decide) _ (selK (eqP L n) i).length (iC (selK (eqP L n) i)) rfl ((hownh.out.alloc _)) _ 1 1 rfl (Nat.le_refl _) (by intro h; cases h) (iC [((i : Int) : Int)]) rfl (rd_oneG _ _ _ _ (by simp)) (iC_one _) (by unfold maxLen; omega) (by omega) (by simp; omega) ?_); intro v3 w3 hown3 hgrow3 hwhere3)
        obtain ⟨hb3, hl3⟩ := append_below hb (fun k hk => (hownh.out.lt k hk).1) hgrow3 hwhere3
        have hown3 := Lib.hid (own_snoc hown3 hsel.out rfl)
        clear hgrow3 hwhere3
        go_wp2
        go_roundw
        case rel => exact ⟨i + 1, by omega, by go_num, hown3.out, hb3⟩
        case measure => simp [intOf]; omega
      · have ht : (v == n) = false := by rw [beq_eq_false_iff_ne]; exact hvn
        have hsel := Lib.hid (sel_no (p := eqP L n) (k := i) (by rw [he]; exact decide_eq_false hvn))
        replace hvn := Lib.hid hvn
        clear he
        go_wp2
        go_roundw
        case rel => exact ⟨i + 1, by omega, by go_num, by rw [hsel.out]; exact hownh.out, hb⟩
        case measure => simp [intOf]; omega
    · have hij : i = L.length := by omega
      subst hij
      go_wp2
      go_ret
      exact ⟨_, rfl, hownh.out, hb⟩
set_option maxHeartbeats 2000000 in
theorem gChildren_any (x : Option Addr) (c : Nat) (L : List Int) (n : Int) (w : World) (hm : L.length ≤ 1048576) (hL : Rd w x (iC L)) :
    Calls Try.prog 42 #[.agg #[.slice x L.length c], .int .i64 n] w (RetG (awL L n) w) := by
  obtain ⟨i0, hii, hz0, hz1, hz2⟩ := info_parts Try.infoInt
  have hLh := Lib.hid hL
  clear hL
  go_enter Try.func42, Try.ntmps42
  go_wp2
  go_loopw [5, 11] (fun u q wr => ∃ i : Nat, i ≤ L.length ∧ q = .int .i64 i ∧ wr.ownsRow w.heap.size 3 1 u (selK (eqP L n) i).length (iC (selK (eqP L n) i)) ∧ Below w.heap.size w wr) (fun _ q _ => L.length - (intOf q).toNat)
  case atStart => exact ⟨0, by omega, by go_num, World.ownsRow_nil _ _ _ _, (by repeat (first | exact Below.refl _ _ | assumption | refine Below.drew ?_ | refine below_drewN ?_ _ | refine Below.alloc' ?_ _ | (refine Below.setCell ?_ (by first | omega | (simp; done) | (simp; omega) | exact Below.size (by assumption) | exact Nat.le_trans (Below.size (by assumption)) (by simp)) _) | (refine Below.via' ?_ (by assumption)) | (refine Below.alloc ?_ (by first | omega | (simp; done) | (simp; omega) | exact Below.size (by assumption) | exact Nat.le_trans (Below.size (by assumption)) (by simp)) _) | (refine Below.via ?_ (by assumption) (by first | omega | (simp; done) | (simp; omega) | exact Below.size (by assumption) | exact Nat.le_trans (Below.size (by assumption)) (by simp)))))⟩
  case round =>
    obtain ⟨i, hi, rfl, hown, hb⟩ := hrel
    have hownh := Lib.hid hown
    clear hown
    have hsl := sel_len (eqP L n) i
    by_cases hlt : i < L.length
    · obtain ⟨bl, off, v, rfl, hbl, hLi, hc0⟩ := (hLh.out.below hb).int hlt
      have hlt' : (i : Int) < (L.length : Int) := by omega
      have he := eqP_at (n := n) hLi
      replace hLi := Lib.hid hLi
      by_cases hvn : v = n
      · have ht : (v == n) = true := by rw [beq_iff_eq]; exact hvn
        have hsel := Lib.hid (sel_yes (p := eqP L n) (k := i) (by rw [he]; exact decide_eq_true hvn))
        replace hvn := Lib.hid hvn
        clear he
        have hs0 := hb.size
        go_wp2_with (at_builtin; go_loud (refine wpList_append_rd _ rfl (.tmp 19) (.tmp 21) 24 rfl (w.heap.size) 3 i0 (.int .i64 0) 1 8 Try.underlying24 hii hz0 hz1 hz2 rfl (by decide) _ (selK (eqP L n) i).length (iC (selK (eqP L n) i)) rfl ((hownh.out.alloc _)) _ 1 1 rfl (Nat.le_refl _) (by intro h; cases h) (iC [((i : Int) : Int)]) rfl (rd_oneG _ _ _ _ (by simp)) (iC_one _) (by unfold maxLen; omega) (by omega) (by simp; omega) ?_); intro v3 w3 hown3 hgrow3 hwhere3)
        obtain ⟨hb3, hl3⟩ := append_below hb (fun k hk => (hownh.out.lt k hk).1) hgrow3 hwhere3
        have hown3 := Lib.hid (own_snoc hown3 hsel.out rfl)
        clear hgrow3 hwhere3
        go_wp2
        go_roundw
        case rel => exact ⟨i + 1, by omega, by go_num, hown3.out, hb3⟩
        case measure => simp [intOf]; omega
      · have ht : (v == n) = false := by rw [beq_eq_false_iff_ne]; exact hvn
        have hsel := Lib.hid (sel_no (p := eqP L n) (k := i) (by rw [he]; exact decide_eq_false hvn))
        replace hvn := Lib.hid hvn
        clear he
        go_wp2
        go_roundw
        case rel => exact ⟨i + 1, by omega, by go_num, by rw [hsel.out]; exact hownh.out, hb⟩
        case measure => simp [intOf]; omega
    · have hij : i = L.length := by omega
      subst hij
      go_wp2
      go_ret
      exact ⟨_, rfl, hownh.out, hb⟩

theorem QB.rest {w1 w3 : World} {g : Nat} {y : Option Addr} {n c : Nat} {o : Obj} {r : Option Nat} (h : QB w1 g y n c) (hg : (w1.alloc o).grownBy w3 r) (hr : ∀ k, r = some k → g < k) : QB w3 g y n c :=
  (h.below ((Below.refl _ _).alloc (Nat.le_refl _) o)).grown hg (fun e => by have := hr g e.symm; omega)
set_option maxHeartbeats 4000000 in
theorem gLeaves_any (x : Option Addr) (c : Nat) (P : List Int) (w : World) (hg : geB P = true) (h : IIn w x P) :
    Calls Try.prog 38 #[.agg #[.slice x P.length c]] w (RetG (lfL P) w) := by
  obtain ⟨i0, hii, hz0, hz1, hz2⟩ := info_parts Try.infoInt
  have hm := h.1
  have hh := Lib.hid h
  have hgh := Lib.hid hg
  have hq0 := Lib.hid (QB.new w x P.length c 26)
  clear h hg
  go_enter Try.func38, Try.ntmps38
  go_wp2
  go_loopw [3, 8] (fun u q wr => ∃ i : Nat, i ≤ P.length ∧ q = .int .i64 i ∧ wr.ownsRow (w.heap.size + 1) 3 1 u (selK (lfP P) i).length (iC (selK (lfP P) i)) ∧ QB wr w.heap.size x P.length c ∧ Below w.heap.size w wr) (fun _ q _ => P.length - (intOf q).toNat)
  case atStart => exact ⟨0, by omega, by go_num, World.ownsRow_nil _ _ _ _, hq0.out, (by repeat (first | exact Below.refl _ _ | assumption | refine Below.drew ?_ | refine below_drewN ?_ _ | refine Below.alloc' ?_ _ | (refine Below.setCell ?_ (by first | omega | (simp; done) | (simp; omega) | exact Below.size (by assumption) | exact Nat.le_trans (Below.size (by assumption)) (by simp)) _) | (refine Below.via' ?_ (by assumption)) | (refine Below.alloc ?_ (by first | omega | (simp; done) | (simp; omega) | exact Below.size (by assumption) | exact Nat.le_trans (Below.size (by assumption)) (by simp)) _) | (refine Below.via ?_ (by assumption) (by first | omega | (simp; done) | (simp; omega) | exact Below.size (by assumption) | exact Nat.le_trans (Below.size (by assumption)) (by simp)))))⟩
  case round =>
    clear hq0
    obtain ⟨i, hi, rfl, hown, hq, hb⟩ := hrel
    obtain ⟨ka, kb, kc⟩ := hq
    have hqh := Lib.hid (show QB wr w.heap.size x P.length c from ⟨ka, kb, kc⟩)
    have hownh := Lib.hid hown
    clear hown
    have hsl := sel_len (lfP P) i
    by_cases hlt : i < P.length
    · have hlt' : (i : Int) < (P.length : Int) := by omega
      go_wp2_with fail
      refine (gChildren_any _ _ P (i : Int) _ hm (hh.out.2.2.below (by exact (by repeat (first | exact Below.refl _ _ | assumption | refine Below.drew ?_ | refine below_drewN ?_ _ | refine Below.alloc' ?_ _ | (refine Below.setCell ?_ (by first | omega | (simp; done) | (simp; omega) | exact Below.size (by assumption) | exact Nat.le_trans (Below.size (by assumption)) (by simp)) _) | (refine Below.via' ?_ (by assumption)) | (refine Below.alloc ?_ (by first | omega | (simp; done) | (simp; omega) | exact Below.size (by assumption) | exact Nat.le_trans (Below.size (by assumption)) (by simp)) _) | (refine Below.via ?_ (by assumption) (by first | omega | (simp; done) | (simp; omega) | exact Below.size (by assumption) | exact Nat.le_trans (Below.size (by assumption)) (by simp)))))))).mono ?_
      rintro e w1 ⟨v1, rfl, hov1, hb1⟩
      obtain ⟨x1, c1, rfl, -, -⟩ := OwR.form (OwR.of hov1)
      clear hov1
      have hb2 : Below w.heap.size w w1 := (by repeat (first | exact Below.refl _ _ | assumption | refine Below.drew ?_ | refine below_drewN ?_ _ | refine Below.alloc' ?_ _ | (refine Below.setCell ?_ (by first | omega | (simp; done) | (simp; omega) | exact Below.size (by assumption) | exact Nat.le_trans (Below.size (by assumption)) (by simp)) _) | (refine Below.via' ?_ (by assumption)) | (refine Below.alloc ?_ (by first | omega | (simp; done) | (simp; omega) | exact Below.size (by assumption) | exact Nat.le_trans (Below.size (by assumption)) (by simp)) _) | (refine Below.via ?_ (by assumption) (by first | omega | (simp; done) | (simp; omega) | exact Below.size (by assumption) | exact Nat.le_trans (Below.size (by assumption)) (by simp)))))
      have hq1 := Lib.hid (hqh.out.below hb1)
      have ho1 := Lib.hid (own_below hownh.out hb1)
      clear ka kb kc
      have hs0 := hb2.size
      have hs1 : w.heap.size + 1 ≤ w1.heap.size := hq1.out.2.2
      by_cases hvn : (awL P i).length = 0
      · have ht : (((awL P i).length : Int) == 0) = true := by rw [beq_iff_eq]; omega
        have hsel := Lib.hid (sel_yes (p := lfP P) (k := i) (decide_eq_true hvn))
        replace hvn := Lib.hid hvn
        go_wp2_with (at_builtin; go_loud (refine wpList_append_rd _ rfl (.tmp 16) (.tmp 18) 24 rfl ((w.heap.size + 1)) 3 i0 (.int .i64 0) 1 8 Try.underlying24 hii hz0 hz1 hz2 rfl (by decide) _ (selK (lfP P) i).length (iC (selK (lfP P) i)) rfl ((ho1.out.alloc _)) _ 1 1 rfl (Nat.le_refl _) (by intro h; cases h) (iC [((i : Int) : Int)]) rfl (rd_oneG _ _ _ _ (by simp)) (iC_one _) (by unfold maxLen; omega) (by omega) (by simp; omega) ?_); intro v3 w3 hown3 hgrow3 hwhere3)
        obtain ⟨hb3, -⟩ := append_below hb2 (fun k hk => by have := (ho1.out.lt k hk).1; omega) hgrow3 hwhere3
        have hq3 := Lib.hid (hq1.out.rest hgrow3 (fun k hk => by have := (ho1.out.lt k hk).1; omega))
        have hown3 := Lib.hid (own_snoc hown3 hsel.out rfl)
        have hb3 := Lib.hid hb3
        clear hgrow3 hwhere3
        go_wp2
        go_roundw
        case rel => exact ⟨i + 1, by omega, by go_num, hown3.out, hq3.out, hb3.out⟩
        case measure => simp [intOf]; omega
      · have ht : (((awL P i).length : Int) == 0) = false := by rw [← Bool.not_eq_true]; intro e; exact hvn (by simpa using e)
        have hsel := Lib.hid (sel_no (p := lfP P) (k := i) (decide_eq_false hvn))
        replace hvn := Lib.hid hvn
        go_wp2
        go_roundw
        case rel => exact ⟨i + 1, by omega, by go_num, by rw [hsel.out]; exact ho1.out, hq1.out, hb2⟩
        case measure => simp [intOf]; omega
    · have hij : i = P.length := by omega
      subst hij
      go_wp2
      go_ret
      exact ⟨_, rfl, own_more hownh.out (by omega), hb⟩
end Go.Proofs.Ytmefkknkahmihaa
