/-
  The walks of chapter 2: the model's number of groups where the numbers suit.
-/
import Derived.Test.YtnmpigedhpdenabGrpH
namespace Go.Proofs.Ytnmpigedhpdenab
open Go.RowKit
set_option maxRecDepth 100000

theorem own_someG {w : World} {base e n : Nat} {v : Value} {xs : List Value} (h : w.ownsRow base e 1 v n xs) (hn : 0 < n) : ∃ g cap, v = .slice (some ⟨g, 0, none⟩) n cap := by
  rcases h.2 with ⟨_, h2⟩ | ⟨g, cap, cur, hv, _⟩
  · omega
  · exact ⟨g, cap, hv⟩
theorem gvZ_ok {S : List (ByteArray × Int)} {v : Int} {G : List Int} (h : okG S v G = true) (hg : gsB G = true) : gvZ S v G = (metL G).length := gvZ_yes (by rw [gv_of h]; exact hg)
theorem met_last {G : List Int} (h : G ≠ []) : (metL G)[(metL G).length - 1]? = some (mxZ G) := by
  have hne := met_ne h
  have hl : 0 < (metL G).length := List.length_pos_iff.2 hne
  have e : (metL G)[(metL G).length - 1]? = some (metL G)[(metL G).length - 1] := List.getElem?_eq_getElem (by omega)
  rw [e]
  unfold mxZ
  rw [lsZ_at e]

set_option maxHeartbeats 4000000 in
theorem sGroups_ok (x y : Option Addr) (c1 c2 : Nat) (S : List (ByteArray × Int)) (v : Int) (G : List Int) (w : World) (hs : schB S = true) (hm : S.length ≤ 1048576) (hS : Rd w x (vC S)) (hG : IIn w y G) (hok : okG S v G = true) (h4 : inR G 0 7 = true) :
    Calls Try.prog 114 #[.slice x S.length c1, .agg #[.int .i64 v, .slice y G.length c2]] w fun e w' => e = .returned (.int .i64 (gvZ S v G)) ∧ Below w.heap.size w w' := by
  have hSh := Lib.hid hS
  have hGl := hG.1
  have hGh := Lib.hid hG.2.2
  clear hS hG
  have hsl := schB_len hs
  have q1 : IntKind.i64.wrap ((S.length : Int) - 1) = S.length - 1 := IntWalk.i64_in _ (by omega)
  have HG := Lib.hid (hGh.out.alloc (.cells #[.int .i64 v, .slice y G.length c2] 58))
  obtain ⟨k, nm, lv, rfl, hSk, h3⟩ : ∃ (k : Nat) (nm : ByteArray) (lv : Int), v = (k : Int) ∧ S[k]? = some (nm, lv) ∧ (G.length : Int) = lv := by
    by_cases h0 : v < 0
    · rw [okG_neg h0] at hok; cases hok
    obtain ⟨k, rfl⟩ := Int.eq_ofNat_of_zero_le (show 0 ≤ v by omega)
    cases hk : S[k]? with
    | none =>
      rw [okG_far (by have := List.getElem?_eq_none_iff.1 hk; omega)] at hok
      cases hok
    | some p =>
      obtain ⟨nm, lv⟩ := p
      rw [okG_at hk, decide_eq_true_eq] at hok
      exact ⟨k, nm, lv, rfl, hk, hok⟩
  have hk : k < S.length := (List.getElem?_eq_some_iff.1 hSk).1
  obtain ⟨bl, off, nm2, lv2, hx, hbl, hSk2, hc0, hc1⟩ := hSh.out.var hk
  subst hx
  have e2 := Option.some.inj (hSk2.symm.trans hSk)
  injection e2 with e2 e3
  subst e2 e3
  have hgl := okG_len hs hSk h3
  have h1 : inB (k : Int) 0 (S.length - 1) = true := (inB_iff _ _ _).2 ⟨by omega, by omega⟩
  have hk' : (k : Int) < (S.length : Int) := by omega
  have hk0 : (0 : Int) ≤ (k : Int) := by omega
  have h3a : ((G.length : Int) == lv2) = true := by rw [beq_iff_eq]; exact h3
  have h3b : ((G.length : Int) != lv2) = false := by show (!((G.length : Int) == lv2)) = false; rw [h3a]; rfl
  replace h3 := Lib.hid h3
  replace hok := Lib.hid hok
  clear hSk hSk2
  replace hs := Lib.hid hs
  go_enter Try.func114, Try.ntmps114
  go_wp2
  go_quiet (first | (go_at_call 101; exact Calls.quiet_of_same ((l1In_any _ _ _ _).mono fun _ _ h => ⟨h.1, h.2.symm⟩)) | (go_at_call 87; exact Calls.quiet_of_same ((l1All_any _ _ _ _ _ _ hGl (HG.out.below (by exact (by repeat (first | exact Below.refl _ _ | assumption | refine Below.drew ?_ | refine below_drewN ?_ _ | refine Below.alloc' ?_ _ | (refine Below.setCell ?_ (by first | omega | (simp; done) | (simp; omega) | exact Below.size (by assumption) | exact Nat.le_trans (Below.size (by assumption)) (by simp)) _) | (refine Below.via' ?_ (by assumption)) | (refine Below.alloc ?_ (by first | omega | (simp; done) | (simp; omega) | exact Below.size (by assumption) | exact Nat.le_trans (Below.size (by assumption)) (by simp)) _) | (refine Below.via ?_ (by assumption) (by first | omega | (simp; done) | (simp; omega) | exact Below.size (by assumption) | exact Nat.le_trans (Below.size (by assumption)) (by simp)))))))).mono fun _ _ h => ⟨h.1, h.2.symm⟩)))
  go_wp2
  clear q1 h3a h3b
  replace h4 := Lib.hid h4
  replace h1 := Lib.hid h1
  clear hc0 hc1
  go_loopw [5, 36] (fun m c wr => ∃ i : Nat, i ≤ G.length ∧ c = .int .i64 i ∧ wr.ownsRow w.heap.size 3 1 m (metL (G.take i)).length (iC (metL (G.take i))) ∧ Hid (i = 0 → m = .slice none 0 0) ∧ Below w.heap.size w wr) (fun _ c _ => G.length - (intOf c).toNat)
  case atStart => exact ⟨0, by omega, rfl, World.ownsRow_nil _ _ _ _, (fun _ => rfl), (by repeat (first | exact Below.refl _ _ | assumption | refine Below.drew ?_ | refine below_drewN ?_ _ | refine Below.alloc' ?_ _ | (refine Below.setCell ?_ (by first | omega | (simp; done) | (simp; omega) | exact Below.size (by assumption) | exact Nat.le_trans (Below.size (by assumption)) (by simp)) _) | (refine Below.via' ?_ (by assumption)) | (refine Below.alloc ?_ (by first | omega | (simp; done) | (simp; omega) | exact Below.size (by assumption) | exact Nat.le_trans (Below.size (by assumption)) (by simp)) _) | (refine Below.via ?_ (by assumption) (by first | omega | (simp; done) | (simp; omega) | exact Below.size (by assumption) | exact Nat.le_trans (Below.size (by assumption)) (by simp)))))⟩
  case round =>
    obtain ⟨i, hi, rfl, hown, hnil, hb⟩ := hrel
    have hml : (metL (G.take i)).length ≤ i := by
      have := metL_len (G.take i)
      rw [List.length_take] at this
      omega
    have hbs := hb.size
    by_cases hlt : i < G.length
    · obtain ⟨bl2, off2, u, hy, hbl2, hGi, hc2⟩ := (hGh.out.below hb).int (i := i) hlt
      subst hy
      have hlt' : (i : Int) < (G.length : Int) := by omega
      have htk : Hid (metL (G.take (i + 1)) = putL (metL (G.take i)) u) := by unfold Hid; rw [take_snoc hGi, metL_snoc]
      replace hGi := Lib.hid hGi
      by_cases hi0 : i = 0
      · have hmn := hnil.out hi0
        subst hmn
        have hme : Hid (metL (G.take i) = []) := by unfold Hid; rw [hi0]; rfl
        replace hi0 := Lib.hid hi0
        clear hown
        go_wp2_with (go_at_call 167; refine (l1Put_nil _ w.heap.size _ hbs).mono ?_; rintro e w2 ⟨m2, rfl, hown2, hb2⟩)
        go_roundw
        case rel => exact ⟨i + 1, by omega, by go_num, by rw [htk.out, hme.out]; exact hown2, (fun h => absurd h (by omega)), (by repeat (first | exact Below.refl _ _ | assumption | refine Below.drew ?_ | refine below_drewN ?_ _ | refine Below.alloc' ?_ _ | (refine Below.setCell ?_ (by first | omega | (simp; done) | (simp; omega) | exact Below.size (by assumption) | exact Nat.le_trans (Below.size (by assumption)) (by simp)) _) | (refine Below.via' ?_ (by assumption)) | (refine Below.alloc ?_ (by first | omega | (simp; done) | (simp; omega) | exact Below.size (by assumption) | exact Nat.le_trans (Below.size (by assumption)) (by simp)) _) | (refine Below.via ?_ (by assumption) (by first | omega | (simp; done) | (simp; omega) | exact Below.size (by assumption) | exact Nat.le_trans (Below.size (by assumption)) (by simp)))))⟩
        case measure => simp [intOf]; omega
      · have hpos : 0 < (metL (G.take i)).length := by
          apply List.length_pos_iff.2
          apply met_ne
          intro e
          have : (G.take i).length = 0 := by rw [e]; rfl
          rw [List.length_take] at this
          omega
        obtain ⟨g, cap, hmm⟩ := own_someG hown hpos
        subst hmm
        go_wp2_with (go_at_call 167; refine (l1Put_some _ _ _ _ _ w.heap.size _ (by omega) rfl hpos (metL_inc _) hbs hown).mono ?_; rintro e w2 ⟨m2, rfl, hown2, hb2⟩)
        go_roundw
        case rel => exact ⟨i + 1, by omega, by go_num, by rw [htk.out]; exact hown2, (fun h => absurd h (by omega)), (by repeat (first | exact Below.refl _ _ | assumption | refine Below.drew ?_ | refine below_drewN ?_ _ | refine Below.alloc' ?_ _ | (refine Below.setCell ?_ (by first | omega | (simp; done) | (simp; omega) | exact Below.size (by assumption) | exact Nat.le_trans (Below.size (by assumption)) (by simp)) _) | (refine Below.via' ?_ (by assumption)) | (refine Below.alloc ?_ (by first | omega | (simp; done) | (simp; omega) | exact Below.size (by assumption) | exact Nat.le_trans (Below.size (by assumption)) (by simp)) _) | (refine Below.via ?_ (by assumption) (by first | omega | (simp; done) | (simp; omega) | exact Below.size (by assumption) | exact Nat.le_trans (Below.size (by assumption)) (by simp)))))⟩
        case measure => simp [intOf]; omega
    · have hij : i = G.length := by omega
      subst hij
      rw [List.take_length] at hown hml
      clear hnil
      have hGne : G ≠ [] := fun e => by rw [e] at hgl; simp at hgl
      have hpos : 0 < (metL G).length := List.length_pos_iff.2 (met_ne hGne)
      obtain ⟨g, cap, hmm⟩ := own_someG hown hpos
      subst hmm
      by_cases h2 : (metL G).length < 2
      · have hv := Lib.hid (gvZ_g (S := S) (v := k) (gs_few h2))
        have h2' : ((metL G).length : Int) < 2 := by omega
        go_wp2
        go_ret
        exact ⟨ret_int hv.out.symm, (by repeat (first | exact Below.refl _ _ | assumption | refine Below.drew ?_ | refine below_drewN ?_ _ | refine Below.alloc' ?_ _ | (refine Below.setCell ?_ (by first | omega | (simp; done) | (simp; omega) | exact Below.size (by assumption) | exact Nat.le_trans (Below.size (by assumption)) (by simp)) _) | (refine Below.via' ?_ (by assumption)) | (refine Below.alloc ?_ (by first | omega | (simp; done) | (simp; omega) | exact Below.size (by assumption) | exact Nat.le_trans (Below.size (by assumption)) (by simp)) _) | (refine Below.via ?_ (by assumption) (by first | omega | (simp; done) | (simp; omega) | exact Below.size (by assumption) | exact Nat.le_trans (Below.size (by assumption)) (by simp)))))⟩
      have h2' : ¬ ((metL G).length : Int) < 2 := by omega
      have hlast := met_last hGne
      have hcell := (hown.cellAt ((metL G).length - 1) (by omega)).trans (iC_at hlast)
      replace hlast := Lib.hid hlast
      have hms : (metL G).length ≤ 8 := by omega
      have hin := h4.out
      by_cases h3 : mxZ G = (metL G).length - 1
      · have hv := Lib.hid (gvZ_ok hok.out (gs_yes hin (by omega) h3))
        have h3' : (mxZ G == ((metL G).length : Int) - 1) = true := by rw [beq_iff_eq]; exact h3
        have h3'' : (mxZ G != ((metL G).length : Int) - 1) = false := by show (!(mxZ G == ((metL G).length : Int) - 1)) = false; rw [h3']; rfl
        replace h3 := Lib.hid h3
        clear hin
        go_wp2
        go_ret
        exact ⟨ret_int hv.out.symm, (by repeat (first | exact Below.refl _ _ | assumption | refine Below.drew ?_ | refine below_drewN ?_ _ | refine Below.alloc' ?_ _ | (refine Below.setCell ?_ (by first | omega | (simp; done) | (simp; omega) | exact Below.size (by assumption) | exact Nat.le_trans (Below.size (by assumption)) (by simp)) _) | (refine Below.via' ?_ (by assumption)) | (refine Below.alloc ?_ (by first | omega | (simp; done) | (simp; omega) | exact Below.size (by assumption) | exact Nat.le_trans (Below.size (by assumption)) (by simp)) _) | (refine Below.via ?_ (by assumption) (by first | omega | (simp; done) | (simp; omega) | exact Below.size (by assumption) | exact Nat.le_trans (Below.size (by assumption)) (by simp)))))⟩
      · have hv := Lib.hid (gvZ_g (S := S) (v := k) (gs_gap h3))
        have h3' : (mxZ G == ((metL G).length : Int) - 1) = false := by rw [beq_eq_false_iff_ne]; exact h3
        have h3'' : (mxZ G != ((metL G).length : Int) - 1) = true := by show (!(mxZ G == ((metL G).length : Int) - 1)) = true; rw [h3']; rfl
        replace h3 := Lib.hid h3
        clear hin
        go_wp2
        go_ret
        exact ⟨ret_int hv.out.symm, (by repeat (first | exact Below.refl _ _ | assumption | refine Below.drew ?_ | refine below_drewN ?_ _ | refine Below.alloc' ?_ _ | (refine Below.setCell ?_ (by first | omega | (simp; done) | (simp; omega) | exact Below.size (by assumption) | exact Nat.le_trans (Below.size (by assumption)) (by simp)) _) | (refine Below.via' ?_ (by assumption)) | (refine Below.alloc ?_ (by first | omega | (simp; done) | (simp; omega) | exact Below.size (by assumption) | exact Nat.le_trans (Below.size (by assumption)) (by simp)) _) | (refine Below.via ?_ (by assumption) (by first | omega | (simp; done) | (simp; omega) | exact Below.size (by assumption) | exact Nat.le_trans (Below.size (by assumption)) (by simp)))))⟩

theorem sGroups_any (x y : Option Addr) (c1 c2 : Nat) (S : List (ByteArray × Int)) (v : Int) (G : List Int) (w : World) (hs : schB S = true) (hm : S.length ≤ 1048576) (hS : Rd w x (vC S)) (hG : IIn w y G) :
    Calls Try.prog 114 #[.slice x S.length c1, .agg #[.int .i64 v, .slice y G.length c2]] w fun e w' => e = .returned (.int .i64 (gvZ S v G)) ∧ Below w.heap.size w w' := by
  cases hok : okG S v G with
  | false => exact sGroups_no x y c1 c2 S v G w hs hm hS hG (fun h => by rw [hok] at h; cases h)
  | true =>
    cases h4 : inR G 0 7 with
    | false => exact sGroups_no x y c1 c2 S v G w hs hm hS hG (fun _ => h4)
    | true => exact sGroups_ok x y c1 c2 S v G w hs hm hS hG hok h4

/-- What IsGrouping gives. -/
def igB (S : List (ByteArray × Int)) (v : Int) (G : List Int) : Bool := schB S && gvB S v G
theorem ret_bb {a b p q : Bool} (h : a = b) (k : p = q) : Ending.returned (.tuple #[.bool a, .bool p]) = .returned (.tuple #[.bool b, .bool q]) := by rw [h, k]
end Go.Proofs.Ytnmpigedhpdenab
