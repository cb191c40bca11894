import Derived.Test.YtgkaalonmkcclaaPQfF
import Derived.Deep.RegionHeld
namespace Go.Proofs.Ytgkaalonmkcclaa
open Go.RowKit
set_option maxRecDepth 100000

/-- A list that is handed back only together with true. -/
def gIf (b : Bool) (L : List Int) : List Int := if b then L else []
theorem gIf_len (b : Bool) (L : List Int) {n : Nat} (h : b = true → L.length ≤ n) : (gIf b L).length ≤ n := by
  unfold gIf
  cases b with
  | true => exact h rfl
  | false => simp
theorem RetGB.no {b : Bool} {L : List Int} {w w' : World} (h : b = false) (hb : Below w.heap.size w w') : RetGB (gIf b L) b w (.returned (.tuple #[.slice none 0 0, .bool false])) w' := by
  subst h
  exact ⟨_, rfl, World.ownsRow_nil _ _ _ _, hb⟩
theorem RetGB.yes {b : Bool} {L : List Int} {w w' w2 : World} {v : Value} (h : b = true) (ho : w2.ownsRow w.heap.size 3 1 v L.length (iC L)) (hb2 : Below w2.heap.size w2 w') (hb : Below w.heap.size w w') : RetGB (gIf b L) b w (.returned (.tuple #[v, .bool true])) w' := by
  subst h
  exact ⟨_, rfl, own_below ho hb2, hb⟩
def dpZ (P : List Int) (i : Int) : Int := if gaB P i then dpN P i.toNat else 0
theorem dpZ_no {P : List Int} {i : Int} (h : gaB P i = false) : dpZ P i = 0 := by unfold dpZ; rw [h]; rfl
theorem dpZ_yes {P : List Int} {k : Nat} (h : gaB P k = true) : dpZ P k = dpN P k := by unfold dpZ; rw [h, Int.toNat_natCast]; rfl
def aaB (P : List Int) (i l : Int) : Bool := gaB P i && (decide (0 ≤ l) && decide (l ≤ dpN P i.toNat))
def aaZ (P : List Int) (i l : Int) : Int := if aaB P i l then anZ P i.toNat l else 0
theorem aa_no1 {P : List Int} {i l : Int} (h : gaB P i = false) : aaB P i l = false ∧ aaZ P i l = 0 := by
  have e : aaB P i l = false := by unfold aaB; rw [h]; rfl
  exact ⟨e, by unfold aaZ; rw [e]; rfl⟩
theorem aa_no2 {P : List Int} {k : Nat} {l : Int} (h : ¬ (0 ≤ l ∧ l ≤ dpN P k)) : aaB P k l = false ∧ aaZ P k l = 0 := by
  have e : aaB P k l = false := by
    unfold aaB
    rw [Int.toNat_natCast, Bool.and_eq_false_iff, Bool.and_eq_false_iff, decide_eq_false_iff_not, decide_eq_false_iff_not]
    right
    omega
  exact ⟨e, by unfold aaZ; rw [e]; rfl⟩
theorem aa_yes {P : List Int} {k : Nat} {l : Int} (h : gaB P k = true) (h0 : 0 ≤ l) (h1 : l ≤ dpN P k) : aaB P k l = true ∧ aaZ P k l = anZ P k l := by
  have e : aaB P k l = true := by unfold aaB; rw [h, Int.toNat_natCast, decide_eq_true h0, decide_eq_true h1]; rfl
  exact ⟨e, by unfold aaZ; rw [e, Int.toNat_natCast]; rfl⟩

/-- A level: whether it has areas. -/
def lvnB (P : List Int) (l : Int) : Bool := geB P && decide (0 < (lvL P l).length)
def LvP (P : List Int) (l : Int) (w : World) (e : Ending) (w' : World) : Prop := ∃ v, e = .returned (.tuple #[v, .bool (lvnB P l)]) ∧ w'.ownsRow w.heap.size 3 1 v (gIf (geB P) (lvL P l)).length (iC (gIf (geB P) (lvL P l))) ∧ Below w.heap.size w w'
theorem LvP.no {P : List Int} {l : Int} {w w' : World} (h : geB P = false) (hb : Below w.heap.size w w') : LvP P l w (.returned (.tuple #[.slice none 0 0, .bool false])) w' := by
  unfold LvP lvnB gIf
  rw [h]
  exact ⟨_, rfl, World.ownsRow_nil _ _ _ _, hb⟩
theorem LvP.yes {P : List Int} {l : Int} {w w' w2 : World} {v : Value} {b : Bool} (h : geB P = true) (hq : b = decide (0 < (lvL P l).length)) (ho : w2.ownsRow w.heap.size 3 1 v (lvL P l).length (iC (lvL P l))) (hb2 : Below w2.heap.size w2 w') (hb : Below w.heap.size w w') : LvP P l w (.returned (.tuple #[v, .bool b])) w' := by
  subst hq
  unfold LvP lvnB gIf
  rw [h]
  exact ⟨_, rfl, own_below ho hb2, hb⟩
end Go.Proofs.Ytgkaalonmkcclaa

namespace Go.Proofs.Ytgkaalonmkcclaa
open Go.RowKit
set_option maxRecDepth 100000

set_option maxHeartbeats 2000000 in
theorem iAA_x (x : Option Addr) (c : Nat) (P : List Int) (i l : Int) (w : World) (h : IIn w x P) :
    Calls Try.prog 122 #[.agg #[.slice x P.length c], .int .i64 i, .int .i64 l] w fun e w' => e = .returned (.tuple #[.int .i64 (aaZ P i l), .bool (aaB P i l)]) ∧ Below w.heap.size w w' := by
  have hm := h.1
  have hh := Lib.hid h
  have hq := Lib.hid (QB.new w x P.length c 33)
  clear h
  cases hg : geB P
  · have hv := Lib.hid (aa_no1 (l := l) (ga_no1 (i := i) hg))
    go_enter Try.func122, Try.ntmps122
    go_wp2_with fail
    refine (iGeo_any _ _ _ _ (hh.out.below (by exact (by repeat (first | exact Below.refl _ _ | assumption | refine Below.drew ?_ | refine below_drewN ?_ _ | refine Below.alloc' ?_ _ | (refine Below.setCell ?_ (by first | omega | (simp; done) | (simp; omega) | exact Below.size (by assumption) | exact Nat.le_trans (Below.size (by assumption)) (by simp)) _) | (refine Below.via' ?_ (by assumption)) | (refine Below.alloc ?_ (by first | omega | (simp; done) | (simp; omega) | exact Below.size (by assumption) | exact Nat.le_trans (Below.size (by assumption)) (by simp)) _) | (refine Below.via ?_ (by assumption) (by first | omega | (simp; done) | (simp; omega) | exact Below.size (by assumption) | exact Nat.le_trans (Below.size (by assumption)) (by simp)))))))).mono ?_
    rintro e w1 ⟨rfl, hb1⟩
    obtain ⟨ka, kb, kc⟩ := hq.out.below hb1
    rw [hg]
    go_wp2
    go_ret2
    exact ⟨ret_ibG hv.out.2.symm hv.out.1.symm, (by repeat (first | exact Below.refl _ _ | assumption | refine Below.drew ?_ | refine below_drewN ?_ _ | refine Below.alloc' ?_ _ | (refine Below.setCell ?_ (by first | omega | (simp; done) | (simp; omega) | exact Below.size (by assumption) | exact Nat.le_trans (Below.size (by assumption)) (by simp)) _) | (refine Below.via' ?_ (by assumption)) | (refine Below.alloc ?_ (by first | omega | (simp; done) | (simp; omega) | exact Below.size (by assumption) | exact Nat.le_trans (Below.size (by assumption)) (by simp)) _) | (refine Below.via ?_ (by assumption) (by first | omega | (simp; done) | (simp; omega) | exact Below.size (by assumption) | exact Nat.le_trans (Below.size (by assumption)) (by simp)))))⟩
  cases ha : inB i 0 ((P.length : Int) - 1)
  · have hv := Lib.hid (aa_no1 (l := l) (ga_no2 (i := i) ha))
    go_enter Try.func122, Try.ntmps122
    go_wp2_with fail
    refine (iGeo_any _ _ _ _ (hh.out.below (by exact (by repeat (first | exact Below.refl _ _ | assumption | refine Below.drew ?_ | refine below_drewN ?_ _ | refine Below.alloc' ?_ _ | (refine Below.setCell ?_ (by first | omega | (simp; done) | (simp; omega) | exact Below.size (by assumption) | exact Nat.le_trans (Below.size (by assumption)) (by simp)) _) | (refine Below.via' ?_ (by assumption)) | (refine Below.alloc ?_ (by first | omega | (simp; done) | (simp; omega) | exact Below.size (by assumption) | exact Nat.le_trans (Below.size (by assumption)) (by simp)) _) | (refine Below.via ?_ (by assumption) (by first | omega | (simp; done) | (simp; omega) | exact Below.size (by assumption) | exact Nat.le_trans (Below.size (by assumption)) (by simp)))))))).mono ?_
    rintro e w1 ⟨rfl, hb1⟩
    obtain ⟨ka1, kb1, kc1⟩ := hq.out.below hb1
    rw [hg]
    go_wp2_with fail
    refine (isArea_any _ _ _ _ _).mono ?_
    rintro e w2 ⟨rfl, hb2⟩
    obtain ⟨ka, kb, kc⟩ := (hq.out.below hb1).below hb2
    clear ka1 kb1 kc1
    rw [ha]
    go_wp2
    go_ret2
    exact ⟨ret_ibG hv.out.2.symm hv.out.1.symm, (by repeat (first | exact Below.refl _ _ | assumption | refine Below.drew ?_ | refine below_drewN ?_ _ | refine Below.alloc' ?_ _ | (refine Below.setCell ?_ (by first | omega | (simp; done) | (simp; omega) | exact Below.size (by assumption) | exact Nat.le_trans (Below.size (by assumption)) (by simp)) _) | (refine Below.via' ?_ (by assumption)) | (refine Below.alloc ?_ (by first | omega | (simp; done) | (simp; omega) | exact Below.size (by assumption) | exact Nat.le_trans (Below.size (by assumption)) (by simp)) _) | (refine Below.via ?_ (by assumption) (by first | omega | (simp; done) | (simp; omega) | exact Below.size (by assumption) | exact Nat.le_trans (Below.size (by assumption)) (by simp)))))⟩
  have hga := ga_yes hg ha
  obtain ⟨-, k, rfl, hk⟩ := ga_get hga
  have hgh := Lib.hid hg
  have hpl := pt_len P k
  have hpd := dp_le hg hk
  have hlen := ge_len hg
  by_cases hl : 0 ≤ l ∧ l ≤ dpN P k
  · have hv := Lib.hid (aa_yes hga hl.1 hl.2)
    obtain ⟨n, rfl⟩ := Int.eq_ofNat_of_zero_le hl.1
    have hnl : n < (ptL P k).length := by omega
    have hat : (ptL P k)[n]? = some ((ptL P k)[n]) := List.getElem?_eq_getElem hnl
    have han := an_at hat
    obtain ⟨z, hz⟩ : ∃ z, z = (ptL P k)[n] := ⟨_, rfl⟩
    rw [← hz] at hat han
    replace hz := Lib.hid hz
    have hat := Lib.hid hat
    have han := Lib.hid han
    have h0' : (0 : Int) ≤ (n : Int) := hl.1
    have h1' : (n : Int) < ((ptL P k).length : Int) := by omega
    have hga := Lib.hid hga
    clear hl hpl
    go_enter Try.func122, Try.ntmps122
    go_wp2_with fail
    refine (iGeo_any _ _ _ _ (hh.out.below (by exact (by repeat (first | exact Below.refl _ _ | assumption | refine Below.drew ?_ | refine below_drewN ?_ _ | refine Below.alloc' ?_ _ | (refine Below.setCell ?_ (by first | omega | (simp; done) | (simp; omega) | exact Below.size (by assumption) | exact Nat.le_trans (Below.size (by assumption)) (by simp)) _) | (refine Below.via' ?_ (by assumption)) | (refine Below.alloc ?_ (by first | omega | (simp; done) | (simp; omega) | exact Below.size (by assumption) | exact Nat.le_trans (Below.size (by assumption)) (by simp)) _) | (refine Below.via ?_ (by assumption) (by first | omega | (simp; done) | (simp; omega) | exact Below.size (by assumption) | exact Nat.le_trans (Below.size (by assumption)) (by simp)))))))).mono ?_
    rintro e w1 ⟨rfl, hb1⟩
    obtain ⟨ka1, kb1, kc1⟩ := hq.out.below hb1
    rw [hg]
    go_wp2_with fail
    refine (isArea_any _ _ _ _ _).mono ?_
    rintro e w2 ⟨rfl, hb2⟩
    obtain ⟨ka, kb, kc⟩ := (hq.out.below hb1).below hb2
    clear ka1 kb1 kc1
    rw [ha]
    go_wp2_with fail
    refine (pathTo_any _ _ P k _ hgh.out hk (hh.out.below (by exact (by repeat (first | exact Below.refl _ _ | assumption | refine Below.drew ?_ | refine below_drewN ?_ _ | refine Below.alloc' ?_ _ | (refine Below.setCell ?_ (by first | omega | (simp; done) | (simp; omega) | exact Below.size (by assumption) | exact Nat.le_trans (Below.size (by assumption)) (by simp)) _) | (refine Below.via' ?_ (by assumption)) | (refine Below.alloc ?_ (by first | omega | (simp; done) | (simp; omega) | exact Below.size (by assumption) | exact Nat.le_trans (Below.size (by assumption)) (by simp)) _) | (refine Below.via ?_ (by assumption) (by first | omega | (simp; done) | (simp; omega) | exact Below.size (by assumption) | exact Nat.le_trans (Below.size (by assumption)) (by simp)))))))).mono ?_
    rintro e w5 ⟨v5, rfl, ho5, hb5⟩
    obtain ⟨g5, c5, rfl⟩ := own_someV ho5 (by omega)
    obtain ⟨u, hu, k0⟩ := own_cell ho5 (j := n) (by omega)
    obtain rfl : u = .int .i64 z := Option.some.inj (hu.symm.trans (iC_at hat.out))
    have hu := Lib.hid hu
    clear ho5
    go_wp2
    go_ret2
    exact ⟨ret_ibG (by rw [hv.out.2, han.out]) hv.out.1.symm, (by repeat (first | exact Below.refl _ _ | assumption | refine Below.drew ?_ | refine below_drewN ?_ _ | refine Below.alloc' ?_ _ | (refine Below.setCell ?_ (by first | omega | (simp; done) | (simp; omega) | exact Below.size (by assumption) | exact Nat.le_trans (Below.size (by assumption)) (by simp)) _) | (refine Below.via' ?_ (by assumption)) | (refine Below.alloc ?_ (by first | omega | (simp; done) | (simp; omega) | exact Below.size (by assumption) | exact Nat.le_trans (Below.size (by assumption)) (by simp)) _) | (refine Below.via ?_ (by assumption) (by first | omega | (simp; done) | (simp; omega) | exact Below.size (by assumption) | exact Nat.le_trans (Below.size (by assumption)) (by simp)))))⟩
  have hv := Lib.hid (aa_no2 hl)
  have hga := Lib.hid hga
  have hlm : ((ptL P k).length : Int) = (dpN P k : Int) + 1 := by omega
  by_cases hn : l < 0
  · clear hl hpl hlm
    go_enter Try.func122, Try.ntmps122
    go_wp2_with fail
    refine (iGeo_any _ _ _ _ (hh.out.below (by exact (by repeat (first | exact Below.refl _ _ | assumption | refine Below.drew ?_ | refine below_drewN ?_ _ | refine Below.alloc' ?_ _ | (refine Below.setCell ?_ (by first | omega | (simp; done) | (simp; omega) | exact Below.size (by assumption) | exact Nat.le_trans (Below.size (by assumption)) (by simp)) _) | (refine Below.via' ?_ (by assumption)) | (refine Below.alloc ?_ (by first | omega | (simp; done) | (simp; omega) | exact Below.size (by assumption) | exact Nat.le_trans (Below.size (by assumption)) (by simp)) _) | (refine Below.via ?_ (by assumption) (by first | omega | (simp; done) | (simp; omega) | exact Below.size (by assumption) | exact Nat.le_trans (Below.size (by assumption)) (by simp)))))))).mono ?_
    rintro e w1 ⟨rfl, hb1⟩
    obtain ⟨ka1, kb1, kc1⟩ := hq.out.below hb1
    rw [hg]
    go_wp2_with fail
    refine (isArea_any _ _ _ _ _).mono ?_
    rintro e w2 ⟨rfl, hb2⟩
    obtain ⟨ka, kb, kc⟩ := (hq.out.below hb1).below hb2
    clear ka1 kb1 kc1
    rw [ha]
    go_wp2_with fail
    refine (pathTo_any _ _ P k _ hgh.out hk (hh.out.below (by exact (by repeat (first | exact Below.refl _ _ | assumption | refine Below.drew ?_ | refine below_drewN ?_ _ | refine Below.alloc' ?_ _ | (refine Below.setCell ?_ (by first | omega | (simp; done) | (simp; omega) | exact Below.size (by assumption) | exact Nat.le_trans (Below.size (by assumption)) (by simp)) _) | (refine Below.via' ?_ (by assumption)) | (refine Below.alloc ?_ (by first | omega | (simp; done) | (simp; omega) | exact Below.size (by assumption) | exact Nat.le_trans (Below.size (by assumption)) (by simp)) _) | (refine Below.via ?_ (by assumption) (by first | omega | (simp; done) | (simp; omega) | exact Below.size (by assumption) | exact Nat.le_trans (Below.size (by assumption)) (by simp)))))))).mono ?_
    rintro e w5 ⟨v5, rfl, ho5, hb5⟩
    clear ho5
    go_wp2
    go_ret2
    exact ⟨ret_ibG hv.out.2.symm hv.out.1.symm, (by repeat (first | exact Below.refl _ _ | assumption | refine Below.drew ?_ | refine below_drewN ?_ _ | refine Below.alloc' ?_ _ | (refine Below.setCell ?_ (by first | omega | (simp; done) | (simp; omega) | exact Below.size (by assumption) | exact Nat.le_trans (Below.size (by assumption)) (by simp)) _) | (refine Below.via' ?_ (by assumption)) | (refine Below.alloc ?_ (by first | omega | (simp; done) | (simp; omega) | exact Below.size (by assumption) | exact Nat.le_trans (Below.size (by assumption)) (by simp)) _) | (refine Below.via ?_ (by assumption) (by first | omega | (simp; done) | (simp; omega) | exact Below.size (by assumption) | exact Nat.le_trans (Below.size (by assumption)) (by simp)))))⟩
  · have hge : ((ptL P k).length : Int) ≤ l := by omega
    have hpn : 0 < (ptL P k).length := by omega
    clear hl hpl hlm
    go_enter Try.func122, Try.ntmps122
    go_wp2_with fail
    refine (iGeo_any _ _ _ _ (hh.out.below (by exact (by repeat (first | exact Below.refl _ _ | assumption | refine Below.drew ?_ | refine below_drewN ?_ _ | refine Below.alloc' ?_ _ | (refine Below.setCell ?_ (by first | omega | (simp; done) | (simp; omega) | exact Below.size (by assumption) | exact Nat.le_trans (Below.size (by assumption)) (by simp)) _) | (refine Below.via' ?_ (by assumption)) | (refine Below.alloc ?_ (by first | omega | (simp; done) | (simp; omega) | exact Below.size (by assumption) | exact Nat.le_trans (Below.size (by assumption)) (by simp)) _) | (refine Below.via ?_ (by assumption) (by first | omega | (simp; done) | (simp; omega) | exact Below.size (by assumption) | exact Nat.le_trans (Below.size (by assumption)) (by simp)))))))).mono ?_
    rintro e w1 ⟨rfl, hb1⟩
    obtain ⟨ka1, kb1, kc1⟩ := hq.out.below hb1
    rw [hg]
    go_wp2_with fail
    refine (isArea_any _ _ _ _ _).mono ?_
    rintro e w2 ⟨rfl, hb2⟩
    obtain ⟨ka, kb, kc⟩ := (hq.out.below hb1).below hb2
    clear ka1 kb1 kc1
    rw [ha]
    go_wp2_with fail
    refine (pathTo_any _ _ P k _ hgh.out hk (hh.out.below (by exact (by repeat (first | exact Below.refl _ _ | assumption | refine Below.drew ?_ | refine below_drewN ?_ _ | refine Below.alloc' ?_ _ | (refine Below.setCell ?_ (by first | omega | (simp; done) | (simp; omega) | exact Below.size (by assumption) | exact Nat.le_trans (Below.size (by assumption)) (by simp)) _) | (refine Below.via' ?_ (by assumption)) | (refine Below.alloc ?_ (by first | omega | (simp; done) | (simp; omega) | exact Below.size (by assumption) | exact Nat.le_trans (Below.size (by assumption)) (by simp)) _) | (refine Below.via ?_ (by assumption) (by first | omega | (simp; done) | (simp; omega) | exact Below.size (by assumption) | exact Nat.le_trans (Below.size (by assumption)) (by simp)))))))).mono ?_
    rintro e w5 ⟨v5, rfl, ho5, hb5⟩
    obtain ⟨g5, c5, rfl⟩ := own_someV ho5 hpn
    clear ho5
    go_wp2
    go_ret2
    exact ⟨ret_ibG hv.out.2.symm hv.out.1.symm, (by repeat (first | exact Below.refl _ _ | assumption | refine Below.drew ?_ | refine below_drewN ?_ _ | refine Below.alloc' ?_ _ | (refine Below.setCell ?_ (by first | omega | (simp; done) | (simp; omega) | exact Below.size (by assumption) | exact Nat.le_trans (Below.size (by assumption)) (by simp)) _) | (refine Below.via' ?_ (by assumption)) | (refine Below.alloc ?_ (by first | omega | (simp; done) | (simp; omega) | exact Below.size (by assumption) | exact Nat.le_trans (Below.size (by assumption)) (by simp)) _) | (refine Below.via ?_ (by assumption) (by first | omega | (simp; done) | (simp; omega) | exact Below.size (by assumption) | exact Nat.le_trans (Below.size (by assumption)) (by simp)))))⟩
end Go.Proofs.Ytgkaalonmkcclaa

namespace Go.Proofs.Ytgkaalonmkcclaa
open Go.RowKit
set_option maxRecDepth 100000

theorem elemsI_l (x y : Option Addr) (c1 c2 : Nat) (V F : List Int) (w : World) (hp : InP V.length F) (hV : IIn w y V) (hF : Rd w x (iC F)) :
    Calls Try.prog 124 #[.slice y V.length c1, .slice x F.length c2] w fun e w' => e = .returned (.slice (some ⟨w.heap.size, 0, none⟩) (tbV V F).length (tbV V F).length) ∧ Rd w' (some ⟨w.heap.size, 0, none⟩) (iC (tbV V F)) ∧ Below w.heap.size w w' := by
  refine (elemsI_any x y c1 c2 V F w hp hV hF).mono ?_
  rintro e w' ⟨rfl, ho, hb⟩
  exact ⟨by rw [tbV_len], Rd.of_own ho, hb⟩
theorem ret_ii {a b d e : Int} (h : a = b) (k : d = e) : Ending.returned (.tuple #[.int .i64 a, .int .i64 d]) = .returned (.tuple #[.int .i64 b, .int .i64 e]) := by rw [h, k]
/-- A record that goes with a table: its area is one, its values fit. -/
structure ClP (P : List Int) (S : List (ByteArray × Int)) (k : Nat) (V : List Int) : Prop where
  a : k < P.length
  f : fitB S V = true
section
variable {P : List Int} {S : List (ByteArray × Int)} {l : Int} {F W : List Int} {m : Int} {k : Nat} {V : List Int}
theorem clp_no (h : ¬ (0 ≤ anZ P k l ∧ tmB W V = true)) : clI P S l F W (k : Int) V = -1 ∧ clN P l W m (k : Int) V = 0 := by
  refine cl_no ?_
  rw [Int.toNat_natCast]
  exact h
theorem clp_yes (h : 0 ≤ anZ P k l) (h2 : tmB W V = true) : clI P S l F W (k : Int) V = ceZ P S l F (anZ P k l) (tbV V F) := by
  have := cl_yes (P := P) (S := S) (l := l) (F := F) (a := (k : Int)) (by rw [Int.toNat_natCast]; exact h) h2
  rwa [Int.toNat_natCast] at this
theorem clp_one (h : 0 ≤ anZ P k l) (h2 : tmB W V = true) (hm : m < 0) : clN P l W m (k : Int) V = 1 := cl_one (by rw [Int.toNat_natCast]; exact h) h2 hm
theorem clp_val {v : Int} (h : 0 ≤ anZ P k l) (h2 : tmB W V = true) (hm : 0 ≤ m) (hv : V[m.toNat]? = some v) : clN P l W m (k : Int) V = v := cl_val (by rw [Int.toNat_natCast]; exact h) h2 hm hv
theorem clp_aa (hg : geB P = true) (ha : k < P.length) : aaB P k l = decide (0 ≤ anZ P k l) ∧ (0 ≤ anZ P k l → aaZ P k l = anZ P k l) := by
  have hga := ga_yes hg ((inB_iff (k : Int) 0 ((P.length : Int) - 1)).2 ⟨by omega, by omega⟩)
  have hb := (an_bd hg ha l).2.2
  by_cases h : 0 ≤ l ∧ l ≤ dpN P k
  · have := aa_yes hga h.1 h.2
    exact ⟨by rw [this.1, decide_eq_true (hb.2 h)], fun _ => this.2⟩
  · have := aa_no2 (P := P) (k := k) h
    have hn : ¬ 0 ≤ anZ P k l := fun q => h (hb.1 q)
    exact ⟨by rw [this.1, decide_eq_false hn], fun q => absurd q hn⟩
end

set_option maxHeartbeats 16000000 in
theorem contrib_any (p x z ga va v : Option Addr) (c c2 c3 ca cv c4 : Nat) (P : List Int) (S : List (ByteArray × Int)) (l : Int) (F W : List Int) (m : Int) (k : Nat) (h : Int) (V : List Int) (w : World) (htg : TgP P S l F W m) (hcl : ClP P S k V) (hP : IIn w p P) (hF : IIn w x F) (hW : IIn w z W) (hA : IIn w ga (lvL P l)) (hT : Rd w va (vC (tbS S F))) (hV : IIn w v V) :
    Calls Try.prog 89 #[.agg #[.slice p P.length c, .int .i64 l, .slice x F.length c2, .slice z W.length c3, .int .i64 m, .slice ga (lvL P l).length ca, .slice va (tbS S F).length cv], .agg #[.int .i64 k, .int .i64 h, .slice v V.length c4]] w fun e w' => e = .returned (.tuple #[.int .i64 (clI P S l F W (k : Int) V), .int .i64 (clN P l W m (k : Int) V)]) ∧ Below w.heap.size w w' := by
  have p1 := Lib.hid (g7_of_wb (Wb.new w 91 #[.slice p P.length c, .int .i64 l, .slice x F.length c2, .slice z W.length c3, .int .i64 m, .slice ga (lvL P l).length ca, .slice va (tbS S F).length cv]))
  have p2 := Lib.hid (RB.new (w.alloc (.cells #[.slice p P.length c, .int .i64 l, .slice x F.length c2, .slice z W.length c3, .int .i64 m, .slice ga (lvL P l).length ca, .slice va (tbS S F).length cv] 91)) k h v V.length c4 72)
  obtain ⟨w0, hw0⟩ : ∃ w0, w0 = (w.alloc (.cells #[.slice p P.length c, .int .i64 l, .slice x F.length c2, .slice z W.length c3, .int .i64 m, .slice ga (lvL P l).length ca, .slice va (tbS S F).length cv] 91)).alloc (.cells #[.int .i64 k, .int .i64 h, .slice v V.length c4] 72) := ⟨_, rfl⟩
  have B0 : Below w.heap.size w w0 := by rw [hw0]; exact (by repeat (first | exact Below.refl _ _ | assumption | refine Below.drew ?_ | refine below_drewN ?_ _ | refine Below.alloc' ?_ _ | (refine Below.setCell ?_ (by first | omega | (simp; done) | (simp; omega) | exact Below.size (by assumption) | exact Nat.le_trans (Below.size (by assumption)) (by simp)) _) | (refine Below.via' ?_ (by assumption)) | (refine Below.alloc ?_ (by first | omega | (simp; done) | (simp; omega) | exact Below.size (by assumption) | exact Nat.le_trans (Below.size (by assumption)) (by simp)) _) | (refine Below.via ?_ (by assumption) (by first | omega | (simp; done) | (simp; omega) | exact Below.size (by assumption) | exact Nat.le_trans (Below.size (by assumption)) (by simp)))))
  have gq0 : Hid (G7 w0 w.heap.size (.slice p P.length c) (.int .i64 l) (.slice x F.length c2) (.slice z W.length c3) (.int .i64 m) (.slice ga (lvL P l).length ca) (.slice va (tbS S F).length cv)) := by
    rw [hw0]
    exact p1.out.below (show Below (w.alloc (.cells #[.slice p P.length c, .int .i64 l, .slice x F.length c2, .slice z W.length c3, .int .i64 m, .slice ga (lvL P l).length ca, .slice va (tbS S F).length cv] 91)).heap.size (w.alloc (.cells #[.slice p P.length c, .int .i64 l, .slice x F.length c2, .slice z W.length c3, .int .i64 m, .slice ga (lvL P l).length ca, .slice va (tbS S F).length cv] 91)) _ from (by repeat (first | exact Below.refl _ _ | assumption | refine Below.drew ?_ | refine below_drewN ?_ _ | refine Below.alloc' ?_ _ | (refine Below.setCell ?_ (by first | omega | (simp; done) | (simp; omega) | exact Below.size (by assumption) | exact Nat.le_trans (Below.size (by assumption)) (by simp)) _) | (refine Below.via' ?_ (by assumption)) | (refine Below.alloc ?_ (by first | omega | (simp; done) | (simp; omega) | exact Below.size (by assumption) | exact Nat.le_trans (Below.size (by assumption)) (by simp)) _) | (refine Below.via ?_ (by assumption) (by first | omega | (simp; done) | (simp; omega) | exact Below.size (by assumption) | exact Nat.le_trans (Below.size (by assumption)) (by simp))))))
  have rq0 : Hid (RB w0 (w.heap.size + 1) k h v V.length c4) := by
    have h0 := p2.out
    rw [World.size_alloc, ← hw0] at h0
    exact h0
  have z0 : w0.heap.size = w.heap.size + 1 + 1 := by rw [hw0]; simp
  clear p1 p2
  have hPh := Lib.hid hP
  have hFh := Lib.hid hF
  have hWh := Lib.hid hW
  have hAh := Lib.hid hA
  have hTh := Lib.hid hT
  have hVh := Lib.hid hV
  have hth := Lib.hid htg
  have hclh := Lib.hid hcl
  have hfn := Lib.hid (tw_fine htg.s htg.w hcl.f)
  have hip := Lib.hid (inP_of htg.s htg.r (fit_len hcl.f))
  have haa := clp_aa (l := l) htg.g hcl.a
  have hm0 := htg.m0
  clear hP hF hW hA hT hV htg hcl
  by_cases hz : 0 ≤ anZ P k l
  · have haa1 := Lib.hid (haa.1.trans (decide_eq_true hz))
    have haa2 := Lib.hid (haa.2 hz)
    clear haa
    go_enter Try.func89, Try.ntmps89
    go_wp2_with fail
    rw [← hw0]
    replace hw0 := Lib.hid hw0
    replace z0 := Lib.hid z0
    refine (iAA_x _ _ P (k : Int) l _ (hPh.out.below B0)).mono ?_
    rintro e w1 ⟨rfl, hb1⟩
    rw [haa1.out, haa2.out]
    have B1 : Below w.heap.size w w1 := Below.via' B0 hb1
    have gq1 := Lib.hid (gq0.out.below hb1)
    have rq1 := Lib.hid (rq0.out.below hb1)
    obtain ⟨i01, i11, i21, i31, i41, i51, i61, il1⟩ := gq1.out
    obtain ⟨ra1, rb1, rc1, rd1⟩ := rq1.out
    try clear i00 i10 i20 i30 i40 i50 i60 il0 ra0 rb0 rc0 rd0
    clear hb1
    go_wp2_with fail
    refine (meetsWhere_any _ _ _ _ _ _ _ _ _ _ _ W V _ hfn.out (hWh.out.below B1) (hVh.out.below B1)).mono ?_
    rintro e w2 ⟨rfl, hb2⟩
    have hs2 := hb2.size
    have hs1 := B1.size
    have B2 : Below w.heap.size w w2 := Below.via' B1 hb2
    have gq2 := Lib.hid (gq1.out.below hb2)
    have rq2 := Lib.hid (rq1.out.below hb2)
    obtain ⟨i02, i12, i22, i32, i42, i52, i62, il2⟩ := gq2.out
    obtain ⟨ra2, rb2, rc2, rd2⟩ := rq2.out
    try clear i01 i11 i21 i31 i41 i51 i61 il1 ra1 rb1 rc1 rd1
    clear hb2
    cases hm : tmB W V
    · have hv := Lib.hid (clp_no (P := P) (S := S) (l := l) (F := F) (W := W) (m := m) (k := k) (V := V) (fun q => by rw [hm] at q; cases q.2))
      go_wp2
      go_ret2
      exact ⟨ret_ii hv.out.1.symm hv.out.2.symm, B2⟩
    have hv1 := Lib.hid (clp_yes (S := S) (F := F) hz hm)
    have hone := fun q => clp_one (P := P) (l := l) (m := m) hz hm q
    have hval := fun (v : Int) (q : 0 ≤ m) => clp_val (P := P) (l := l) (v := v) hz hm q
    have hone := Lib.hid hone
    have hval := Lib.hid hval
    have hlv := Lib.hid (List.contains_iff_mem.2 (an_lv hth.out.g hclh.out.a hz))
    have hft := Lib.hid (tbV_fit hclh.out.f hth.out.r)
    replace hm := Lib.hid hm
    have hzl : w.heap.size < w2.heap.size := by have := il2; omega
    have hzl1 : w.heap.size + 1 < w2.heap.size := rd2
    go_wp2
    go_region_held3 (fun w' => Below (w2).heap.size (w2) w' ∧ (∀ b o, b < (w2).heap.size → w'.cell? ⟨b, o, none⟩ = (w2).cell? ⟨b, o, none⟩)) (first | exact keep_of (Below.refl _ _) | ((try go_split_ands); exact keep_of (by repeat (first | exact Below.refl _ _ | assumption | refine Below.drew ?_ | refine below_drewN ?_ _ | refine Below.alloc' ?_ _ | (refine Below.setCell ?_ (by first | omega | (simp; done) | (simp; omega) | exact Below.size (by assumption) | exact Nat.le_trans (Below.size (by assumption)) (by simp)) _) | (refine Below.via' ?_ (by assumption)) | (refine Below.alloc ?_ (by first | omega | (simp; done) | (simp; omega) | exact Below.size (by assumption) | exact Nat.le_trans (Below.size (by assumption)) (by simp)) _) | (refine Below.via ?_ (by assumption) (by first | omega | (simp; done) | (simp; omega) | exact Below.size (by assumption) | exact Nat.le_trans (Below.size (by assumption)) (by simp))))))) (first | (go_at_call 124; refine (elemsI_l _ _ _ _ V F _ hip.out (hVh.out.below (by exact (by repeat (first | exact Below.refl _ _ | assumption | refine Below.drew ?_ | refine below_drewN ?_ _ | refine Below.alloc' ?_ _ | (refine Below.setCell ?_ (by first | omega | (simp; done) | (simp; omega) | exact Below.size (by assumption) | exact Nat.le_trans (Below.size (by assumption)) (by simp)) _) | (refine Below.via' ?_ (by assumption)) | (refine Below.alloc ?_ (by first | omega | (simp; done) | (simp; omega) | exact Below.size (by assumption) | exact Nat.le_trans (Below.size (by assumption)) (by simp)) _) | (refine Below.via ?_ (by assumption) (by first | omega | (simp; done) | (simp; omega) | exact Below.size (by assumption) | exact Nat.le_trans (Below.size (by assumption)) (by simp))))))) (hFh.out.2.2.below (by exact (by repeat (first | exact Below.refl _ _ | assumption | refine Below.drew ?_ | refine below_drewN ?_ _ | refine Below.alloc' ?_ _ | (refine Below.setCell ?_ (by first | omega | (simp; done) | (simp; omega) | exact Below.size (by assumption) | exact Nat.le_trans (Below.size (by assumption)) (by simp)) _) | (refine Below.via' ?_ (by assumption)) | (refine Below.alloc ?_ (by first | omega | (simp; done) | (simp; omega) | exact Below.size (by assumption) | exact Nat.le_trans (Below.size (by assumption)) (by simp)) _) | (refine Below.via ?_ (by assumption) (by first | omega | (simp; done) | (simp; omega) | exact Below.size (by assumption) | exact Nat.le_trans (Below.size (by assumption)) (by simp)))))))).mono ?_; rintro e w3 ⟨rfl, hr3, hb3⟩; (have hr3 := Lib.hid hr3)) | (go_at_call 78; refine (gindex_any _ _ _ _ _ _ _ _ _ _ _ _ P S l F W m (anZ P k l) (tbV V F) _ hth.out hlv.out hft.out (hAh.out.below (by exact (by repeat (first | exact Below.refl _ _ | assumption | refine Below.drew ?_ | refine below_drewN ?_ _ | refine Below.alloc' ?_ _ | (refine Below.setCell ?_ (by first | omega | (simp; done) | (simp; omega) | exact Below.size (by assumption) | exact Nat.le_trans (Below.size (by assumption)) (by simp)) _) | (refine Below.via' ?_ (by assumption)) | (refine Below.alloc ?_ (by first | omega | (simp; done) | (simp; omega) | exact Below.size (by assumption) | exact Nat.le_trans (Below.size (by assumption)) (by simp)) _) | (refine Below.via ?_ (by assumption) (by first | omega | (simp; done) | (simp; omega) | exact Below.size (by assumption) | exact Nat.le_trans (Below.size (by assumption)) (by simp))))))) (hTh.out.below (by exact (by repeat (first | exact Below.refl _ _ | assumption | refine Below.drew ?_ | refine below_drewN ?_ _ | refine Below.alloc' ?_ _ | (refine Below.setCell ?_ (by first | omega | (simp; done) | (simp; omega) | exact Below.size (by assumption) | exact Nat.le_trans (Below.size (by assumption)) (by simp)) _) | (refine Below.via' ?_ (by assumption)) | (refine Below.alloc ?_ (by first | omega | (simp; done) | (simp; omega) | exact Below.size (by assumption) | exact Nat.le_trans (Below.size (by assumption)) (by simp)) _) | (refine Below.via ?_ (by assumption) (by first | omega | (simp; done) | (simp; omega) | exact Below.size (by assumption) | exact Nat.le_trans (Below.size (by assumption)) (by simp))))))) ⟨by rw [tbV_len]; have := hip.out.1; omega, tbI64 hVh.out.2.1, hr3.out.below (by exact (by repeat (first | exact Below.refl _ _ | assumption | refine Below.drew ?_ | refine below_drewN ?_ _ | refine Below.alloc' ?_ _ | (refine Below.setCell ?_ (by first | omega | (simp; done) | (simp; omega) | exact Below.size (by assumption) | exact Nat.le_trans (Below.size (by assumption)) (by simp)) _) | (refine Below.via' ?_ (by assumption)) | (refine Below.alloc ?_ (by first | omega | (simp; done) | (simp; omega) | exact Below.size (by assumption) | exact Nat.le_trans (Below.size (by assumption)) (by simp)) _) | (refine Below.via ?_ (by assumption) (by first | omega | (simp; done) | (simp; omega) | exact Below.size (by assumption) | exact Nat.le_trans (Below.size (by assumption)) (by simp))))))⟩).mono ?_; rintro e w4 ⟨rfl, hb4⟩)); rename_i hH; obtain ⟨hb5, hcl5⟩ := hH; have hz5 := hb5.size; (try simp at hz5); (try (have hly5 := Nat.lt_of_succ_le hz5)); (try (have hlx5 := Nat.lt_of_succ_lt hly5)); (try (have hlw5 := Nat.lt_of_succ_lt hlx5)); (try (have hle5 := Nat.le_of_lt hly5)); (try (have hya5 : w.heap.size < w5.heap.size := by omega)); (try (have hyb5 : w.heap.size + 1 < w5.heap.size := by omega)); (try (have hyc5 : w.heap.size + 1 + 1 < w5.heap.size := by omega)); (try (have hyd5 : wa.heap.size < w5.heap.size := by omega))
    have B5 : Below w.heap.size w w4 := (by repeat (first | exact Below.refl _ _ | assumption | refine Below.drew ?_ | refine below_drewN ?_ _ | refine Below.alloc' ?_ _ | (refine Below.setCell ?_ (by first | omega | (simp; done) | (simp; omega) | exact Below.size (by assumption) | exact Nat.le_trans (Below.size (by assumption)) (by simp)) _) | (refine Below.via' ?_ (by assumption)) | (refine Below.alloc ?_ (by first | omega | (simp; done) | (simp; omega) | exact Below.size (by assumption) | exact Nat.le_trans (Below.size (by assumption)) (by simp)) _) | (refine Below.via ?_ (by assumption) (by first | omega | (simp; done) | (simp; omega) | exact Below.size (by assumption) | exact Nat.le_trans (Below.size (by assumption)) (by simp)))))
    have B25 : Below w2.heap.size w2 w4 := (by repeat (first | exact Below.refl _ _ | assumption | refine Below.drew ?_ | refine below_drewN ?_ _ | refine Below.alloc' ?_ _ | (refine Below.setCell ?_ (by first | omega | (simp; done) | (simp; omega) | exact Below.size (by assumption) | exact Nat.le_trans (Below.size (by assumption)) (by simp)) _) | (refine Below.via' ?_ (by assumption)) | (refine Below.alloc ?_ (by first | omega | (simp; done) | (simp; omega) | exact Below.size (by assumption) | exact Nat.le_trans (Below.size (by assumption)) (by simp)) _) | (refine Below.via ?_ (by assumption) (by first | omega | (simp; done) | (simp; omega) | exact Below.size (by assumption) | exact Nat.le_trans (Below.size (by assumption)) (by simp)))))
    obtain ⟨j0, j1, j2, j3, j4, j5, j6, jl⟩ := gq2.out.below B25
    obtain ⟨ra5, rb5, rc5, rd5⟩ := rq2.out.below B25
    by_cases hmm : m = -1
    · have hm1 : (m == -1) = true := by rw [beq_iff_eq]; exact hmm
      have hv2 := Lib.hid (hone.out (by omega))
      replace hmm := Lib.hid hmm
      go_wp2
      go_ret2
      exact ⟨ret_ii hv1.out.symm hv2.out.symm, B5⟩
    have hm1 : (m == -1) = false := by rw [beq_eq_false_iff_ne]; exact hmm
    obtain ⟨q, rfl⟩ := Int.eq_ofNat_of_zero_le (show 0 ≤ m by omega)
    have hql : q < V.length := by have := hth.out.m1; have := fit_len hclh.out.f; omega
    obtain ⟨b6, o6, u6, hv6, hb6, hu6, k6⟩ := (hVh.out.2.2.below B5).int (i := q) hql
    subst hv6
    have hv2 := Lib.hid (hval.out u6 (by omega) (by rw [Int.toNat_natCast]; exact hu6))
    have hq1 : (q : Int) < (V.length : Int) := by omega
    have hq0 : (0 : Int) ≤ (q : Int) := by omega
    replace hu6 := Lib.hid hu6
    replace hmm := Lib.hid hmm
    go_wp2
    go_quiet (fail)
    go_wp2
    go_ret2
    exact ⟨ret_ii hv1.out.symm hv2.out.symm, (by repeat (first | exact Below.refl _ _ | assumption | refine Below.drew ?_ | refine below_drewN ?_ _ | refine Below.alloc' ?_ _ | (refine Below.setCell ?_ (by first | omega | (simp; done) | (simp; omega) | exact Below.size (by assumption) | exact Nat.le_trans (Below.size (by assumption)) (by simp)) _) | (refine Below.via' ?_ (by assumption)) | (refine Below.alloc ?_ (by first | omega | (simp; done) | (simp; omega) | exact Below.size (by assumption) | exact Nat.le_trans (Below.size (by assumption)) (by simp)) _) | (refine Below.via ?_ (by assumption) (by first | omega | (simp; done) | (simp; omega) | exact Below.size (by assumption) | exact Nat.le_trans (Below.size (by assumption)) (by simp)))))⟩
  · have haa1 := Lib.hid (haa.1.trans (decide_eq_false hz))
    clear haa
    have hv := Lib.hid (clp_no (P := P) (S := S) (l := l) (F := F) (W := W) (m := m) (k := k) (V := V) (fun q => hz q.1))
    go_enter Try.func89, Try.ntmps89
    go_wp2_with fail
    rw [← hw0]
    replace hw0 := Lib.hid hw0
    refine (iAA_x _ _ P (k : Int) l _ (hPh.out.below B0)).mono ?_
    rintro e w1 ⟨rfl, hb1⟩
    rw [haa1.out]
    go_wp2
    go_ret2
    exact ⟨ret_ii hv.out.1.symm hv.out.2.symm, Below.via' B0 hb1⟩
end Go.Proofs.Ytgkaalonmkcclaa

namespace Go.Proofs.Ytgkaalonmkcclaa
open Go.RowKit
set_option maxRecDepth 100000

set_option maxHeartbeats 16000000 in
theorem uCell_any (p y x z v : Option Addr) (c c1 c2 c3 c4 : Nat) (P : List Int) (S : List (ByteArray × Int)) (l : Int) (F W : List Int) (m : Int) (k : Nat) (h : Int) (V : List Int) (w : World) (htg : TgP P S l F W m) (hcl : ClP P S k V) (hP : IIn w p P) (hS : SIn w y c1 S) (hT : TIn w x z F W) (hV : IIn w v V) :
    Calls Try.prog 88 #[.agg #[.slice p P.length c], .slice y S.length c1, .agg #[.int .i64 l, .slice x F.length c2, .slice z W.length c3, .int .i64 m], .agg #[.int .i64 k, .int .i64 h, .slice v V.length c4]] w fun e w' => e = .returned (.tuple #[.int .i64 (clI P S l F W (k : Int) V), .int .i64 (clN P l W m (k : Int) V)]) ∧ Below w.heap.size w w' := by
  have p1 := Lib.hid (QB.new w p P.length c 33)
  have p2 := Lib.hid (TQ.new (w.alloc (.cells #[.slice p P.length c] 33)) l x F.length c2 z W.length c3 m 37)
  have p3 := Lib.hid (RB.new ((w.alloc (.cells #[.slice p P.length c] 33)).alloc (.cells #[.int .i64 l, .slice x F.length c2, .slice z W.length c3, .int .i64 m] 37)) k h v V.length c4 72)
  obtain ⟨w0, hw0⟩ : ∃ w0, w0 = ((w.alloc (.cells #[.slice p P.length c] 33)).alloc (.cells #[.int .i64 l, .slice x F.length c2, .slice z W.length c3, .int .i64 m] 37)).alloc (.cells #[.int .i64 k, .int .i64 h, .slice v V.length c4] 72) := ⟨_, rfl⟩
  have B0 : Below w.heap.size w w0 := by rw [hw0]; exact (by repeat (first | exact Below.refl _ _ | assumption | refine Below.drew ?_ | refine below_drewN ?_ _ | refine Below.alloc' ?_ _ | (refine Below.setCell ?_ (by first | omega | (simp; done) | (simp; omega) | exact Below.size (by assumption) | exact Nat.le_trans (Below.size (by assumption)) (by simp)) _) | (refine Below.via' ?_ (by assumption)) | (refine Below.alloc ?_ (by first | omega | (simp; done) | (simp; omega) | exact Below.size (by assumption) | exact Nat.le_trans (Below.size (by assumption)) (by simp)) _) | (refine Below.via ?_ (by assumption) (by first | omega | (simp; done) | (simp; omega) | exact Below.size (by assumption) | exact Nat.le_trans (Below.size (by assumption)) (by simp)))))
  have g0 : Hid (QB w0 w.heap.size p P.length c) := by
    rw [hw0]
    exact p1.out.below (show Below (w.alloc (.cells #[.slice p P.length c] 33)).heap.size (w.alloc (.cells #[.slice p P.length c] 33)) _ from (by repeat (first | exact Below.refl _ _ | assumption | refine Below.drew ?_ | refine below_drewN ?_ _ | refine Below.alloc' ?_ _ | (refine Below.setCell ?_ (by first | omega | (simp; done) | (simp; omega) | exact Below.size (by assumption) | exact Nat.le_trans (Below.size (by assumption)) (by simp)) _) | (refine Below.via' ?_ (by assumption)) | (refine Below.alloc ?_ (by first | omega | (simp; done) | (simp; omega) | exact Below.size (by assumption) | exact Nat.le_trans (Below.size (by assumption)) (by simp)) _) | (refine Below.via ?_ (by assumption) (by first | omega | (simp; done) | (simp; omega) | exact Below.size (by assumption) | exact Nat.le_trans (Below.size (by assumption)) (by simp))))))
  have t0 : Hid (TQ w0 (w.heap.size + 1) l x F.length c2 z W.length c3 m) := by
    rw [hw0]
    have h0 := p2.out.below (show Below ((w.alloc (.cells #[.slice p P.length c] 33)).alloc (.cells #[.int .i64 l, .slice x F.length c2, .slice z W.length c3, .int .i64 m] 37)).heap.size ((w.alloc (.cells #[.slice p P.length c] 33)).alloc (.cells #[.int .i64 l, .slice x F.length c2, .slice z W.length c3, .int .i64 m] 37)) (((w.alloc (.cells #[.slice p P.length c] 33)).alloc (.cells #[.int .i64 l, .slice x F.length c2, .slice z W.length c3, .int .i64 m] 37)).alloc (.cells #[.int .i64 k, .int .i64 h, .slice v V.length c4] 72)) from (by repeat (first | exact Below.refl _ _ | assumption | refine Below.drew ?_ | refine below_drewN ?_ _ | refine Below.alloc' ?_ _ | (refine Below.setCell ?_ (by first | omega | (simp; done) | (simp; omega) | exact Below.size (by assumption) | exact Nat.le_trans (Below.size (by assumption)) (by simp)) _) | (refine Below.via' ?_ (by assumption)) | (refine Below.alloc ?_ (by first | omega | (simp; done) | (simp; omega) | exact Below.size (by assumption) | exact Nat.le_trans (Below.size (by assumption)) (by simp)) _) | (refine Below.via ?_ (by assumption) (by first | omega | (simp; done) | (simp; omega) | exact Below.size (by assumption) | exact Nat.le_trans (Below.size (by assumption)) (by simp))))))
    rw [World.size_alloc] at h0
    exact h0
  have r0 : Hid (RB w0 (w.heap.size + 1 + 1) k h v V.length c4) := by
    have h0 := p3.out
    rw [World.size_alloc, World.size_alloc, ← hw0] at h0
    exact h0
  have z0 : w0.heap.size = w.heap.size + 1 + 1 + 1 := by rw [hw0]; simp
  clear p1 p2 p3
  have hPh := Lib.hid hP
  have hSh := Lib.hid hS.rd
  have hFh := Lib.hid hT.1
  have hWh := Lib.hid hT.2
  have hVh := Lib.hid hV
  have hth := Lib.hid htg
  have hclh := Lib.hid hcl
  have hgh := Lib.hid htg.g
  have hpt := Lib.hid (tbS_ok htg.s htg.r)
  have hfn := Lib.hid (tw_fine htg.s htg.w hcl.f)
  have hip := Lib.hid (inP_of htg.s htg.r (fit_len hcl.f))
  have hiq := Lib.hid (inP_of htg.s htg.r rfl)
  have hl30 := (ge_len htg.g).2
  have hm0 := htg.m0
  clear hP hS hT hV htg hcl
  by_cases hz : 0 ≤ anZ P k l
  · have hzn : ¬ anZ P k l < 0 := by omega
    go_enter Try.func88, Try.ntmps88
    go_wp2_with fail
    rw [← hw0]
    replace hw0 := Lib.hid hw0
    replace z0 := Lib.hid z0
    refine (gUp_any _ _ P k l _ hgh.out hclh.out.a (hPh.out.below B0)).mono ?_
    rintro e w1 ⟨rfl, hb1⟩
    have B1 : Below w.heap.size w w1 := Below.via' B0 hb1
    have g1 := Lib.hid (g0.out.below hb1)
    have t1 := Lib.hid (t0.out.below hb1)
    have r1 := Lib.hid (r0.out.below hb1)
    obtain ⟨ka1, kb1, kc1⟩ := g1.out
    obtain ⟨ta1, tb1, tc1, td1, te1⟩ := t1.out
    obtain ⟨ra1, rb1, rc1, rd1⟩ := r1.out
    try clear ka0 kb0 kc0 ta0 tb0 tc0 td0 te0 ra0 rb0 rc0 rd0
    clear hb1
    go_wp2_with fail
    refine (uMeets_any _ _ _ _ _ _ _ _ _ W V _ hfn.out (hWh.out.below B1) (hVh.out.below B1)).mono ?_
    rintro e w2 ⟨rfl, hb2⟩
    have B2 : Below w.heap.size w w2 := Below.via' B1 hb2
    have g2 := Lib.hid (g1.out.below hb2)
    have t2 := Lib.hid (t1.out.below hb2)
    have r2 := Lib.hid (r1.out.below hb2)
    obtain ⟨ka2, kb2, kc2⟩ := g2.out
    obtain ⟨ta2, tb2, tc2, td2, te2⟩ := t2.out
    obtain ⟨ra2, rb2, rc2, rd2⟩ := r2.out
    try clear ka1 kb1 kc1 ta1 tb1 tc1 td1 te1 ra1 rb1 rc1 rd1
    clear hb2
    cases hm : tmB W V
    · have hv := Lib.hid (clp_no (P := P) (S := S) (l := l) (F := F) (W := W) (m := m) (k := k) (V := V) (fun q => by rw [hm] at q; cases q.2))
      go_wp2
      go_ret2
      exact ⟨ret_ii hv.out.1.symm hv.out.2.symm, B2⟩
    have hv1 := Lib.hid (clp_yes (S := S) (F := F) hz hm)
    have hone := fun q => clp_one (P := P) (l := l) (m := m) hz hm q
    have hval := fun (v : Int) (q : 0 ≤ m) => clp_val (P := P) (l := l) (v := v) hz hm q
    have hone := Lib.hid hone
    have hval := Lib.hid hval
    have hlm := an_lv hth.out.g hclh.out.a hz
    have hft := Lib.hid (tbV_fit hclh.out.f hth.out.r)
    have hce := ce_bd hth.out hlm hft.out
    have hc := hth.out.c
    have q1 : IntKind.i64.wrap (fdI (lvL P l) (anZ P k l) * cnZ (tbS S F)) = fdI (lvL P l) (anZ P k l) * cnZ (tbS S F) := IntWalk.i64_in _ (by omega)
    have q2 : IntKind.i64.wrap (fdI (lvL P l) (anZ P k l) * cnZ (tbS S F) + ixZ (tbS S F) (tbV V F)) = fdI (lvL P l) (anZ P k l) * cnZ (tbS S F) + ixZ (tbS S F) (tbV V F) := IntWalk.i64_in _ (by unfold ceZ at hce; omega)
    clear hce hc hlm
    replace hm := Lib.hid hm
    go_wp2_with fail
    refine (sPart_any _ _ _ _ S F _ hiq.out (hSh.out.below B2) (hFh.out.2.2.below B2)).mono ?_
    rintro e w3 ⟨u3, rfl, ho3, hb3⟩
    obtain ⟨x3, n3, rfl, -, -⟩ := (OwR.of ho3).form
    have hr3 := Lib.hid (Rd.of_own ho3)
    clear ho3
    have hs3 := Nat.le_trans B2.size hb3.size
    have B3 : Below w.heap.size w w3 := Below.via' B2 hb3
    have g3 := Lib.hid (g2.out.below hb3)
    have t3 := Lib.hid (t2.out.below hb3)
    have r3 := Lib.hid (r2.out.below hb3)
    obtain ⟨ka3, kb3, kc3⟩ := g3.out
    obtain ⟨ta3, tb3, tc3, td3, te3⟩ := t3.out
    obtain ⟨ra3, rb3, rc3, rd3⟩ := r3.out
    try clear ka2 kb2 kc2 ta2 tb2 tc2 td2 te2 ra2 rb2 rc2 rd2
    clear hb3
    have hzl : w.heap.size < w3.heap.size := by have := rd3; omega
    have hzl1 : w.heap.size + 1 < w3.heap.size := by have := rd3; omega
    have hzl2 : w.heap.size + 1 + 1 < w3.heap.size := rd3
    go_wp2
    first | (go_region_held3 (fun w' => Below (w3).heap.size (w3) w' ∧ (∀ b o, b < (w3).heap.size → w'.cell? ⟨b, o, none⟩ = (w3).cell? ⟨b, o, none⟩)) (first | exact keep_of (Below.refl _ _) | ((try go_split_ands); exact keep_of (by repeat (first | exact Below.refl _ _ | assumption | refine Below.drew ?_ | refine below_drewN ?_ _ | refine Below.alloc' ?_ _ | (refine Below.setCell ?_ (by first | omega | (simp; done) | (simp; omega) | exact Below.size (by assumption) | exact Nat.le_trans (Below.size (by assumption)) (by simp)) _) | (refine Below.via' ?_ (by assumption)) | (refine Below.alloc ?_ (by first | omega | (simp; done) | (simp; omega) | exact Below.size (by assumption) | exact Nat.le_trans (Below.size (by assumption)) (by simp)) _) | (refine Below.via ?_ (by assumption) (by first | omega | (simp; done) | (simp; omega) | exact Below.size (by assumption) | exact Nat.le_trans (Below.size (by assumption)) (by simp))))))) (first | (go_at_call 73; refine (gLevel_any _ _ P l _ hgh.out (hPh.out.below (by exact (by repeat (first | exact Below.refl _ _ | assumption | refine Below.drew ?_ | refine below_drewN ?_ _ | refine Below.alloc' ?_ _ | (refine Below.setCell ?_ (by first | omega | (simp; done) | (simp; omega) | exact Below.size (by assumption) | exact Nat.le_trans (Below.size (by assumption)) (by simp)) _) | (refine Below.via' ?_ (by assumption)) | (refine Below.alloc ?_ (by first | omega | (simp; done) | (simp; omega) | exact Below.size (by assumption) | exact Nat.le_trans (Below.size (by assumption)) (by simp)) _) | (refine Below.via ?_ (by assumption) (by first | omega | (simp; done) | (simp; omega) | exact Below.size (by assumption) | exact Nat.le_trans (Below.size (by assumption)) (by simp)))))))).mono ?_; rintro e w4 ⟨v4, rfl, ho4, hb4⟩; obtain ⟨x4, n4, rfl, -, -⟩ := (OwR.of ho4).form; (have hi4 : Hid (IIn w4 x4 (lvL P l)) := iin_sel (by omega) (Rd.of_own ho4)); clear ho4) | (go_at_call 72; refine (l1Find_any _ _ (lvL P l) (anZ P k l) _ (hi4.out.below (by exact (by repeat (first | exact Below.refl _ _ | assumption | refine Below.drew ?_ | refine below_drewN ?_ _ | refine Below.alloc' ?_ _ | (refine Below.setCell ?_ (by first | omega | (simp; done) | (simp; omega) | exact Below.size (by assumption) | exact Nat.le_trans (Below.size (by assumption)) (by simp)) _) | (refine Below.via' ?_ (by assumption)) | (refine Below.alloc ?_ (by first | omega | (simp; done) | (simp; omega) | exact Below.size (by assumption) | exact Nat.le_trans (Below.size (by assumption)) (by simp)) _) | (refine Below.via ?_ (by assumption) (by first | omega | (simp; done) | (simp; omega) | exact Below.size (by assumption) | exact Nat.le_trans (Below.size (by assumption)) (by simp)))))))).mono ?_; rintro e w5 ⟨rfl, rfl⟩) | (go_at_call 74; refine (sCount_p _ _ (tbS S F) _ hpt.out (hr3.out.below (by exact (by repeat (first | exact Below.refl _ _ | assumption | refine Below.drew ?_ | refine below_drewN ?_ _ | refine Below.alloc' ?_ _ | (refine Below.setCell ?_ (by first | omega | (simp; done) | (simp; omega) | exact Below.size (by assumption) | exact Nat.le_trans (Below.size (by assumption)) (by simp)) _) | (refine Below.via' ?_ (by assumption)) | (refine Below.alloc ?_ (by first | omega | (simp; done) | (simp; omega) | exact Below.size (by assumption) | exact Nat.le_trans (Below.size (by assumption)) (by simp)) _) | (refine Below.via ?_ (by assumption) (by first | omega | (simp; done) | (simp; omega) | exact Below.size (by assumption) | exact Nat.le_trans (Below.size (by assumption)) (by simp)))))))).mono ?_; rintro e w6 ⟨rfl, hb6⟩) | (go_at_call 121; refine (sPick_any _ _ _ _ V F _ hip.out (hVh.out.below (by exact (by repeat (first | exact Below.refl _ _ | assumption | refine Below.drew ?_ | refine below_drewN ?_ _ | refine Below.alloc' ?_ _ | (refine Below.setCell ?_ (by first | omega | (simp; done) | (simp; omega) | exact Below.size (by assumption) | exact Nat.le_trans (Below.size (by assumption)) (by simp)) _) | (refine Below.via' ?_ (by assumption)) | (refine Below.alloc ?_ (by first | omega | (simp; done) | (simp; omega) | exact Below.size (by assumption) | exact Nat.le_trans (Below.size (by assumption)) (by simp)) _) | (refine Below.via ?_ (by assumption) (by first | omega | (simp; done) | (simp; omega) | exact Below.size (by assumption) | exact Nat.le_trans (Below.size (by assumption)) (by simp))))))) (hFh.out.2.2.below (by exact (by repeat (first | exact Below.refl _ _ | assumption | refine Below.drew ?_ | refine below_drewN ?_ _ | refine Below.alloc' ?_ _ | (refine Below.setCell ?_ (by first | omega | (simp; done) | (simp; omega) | exact Below.size (by assumption) | exact Nat.le_trans (Below.size (by assumption)) (by simp)) _) | (refine Below.via' ?_ (by assumption)) | (refine Below.alloc ?_ (by first | omega | (simp; done) | (simp; omega) | exact Below.size (by assumption) | exact Nat.le_trans (Below.size (by assumption)) (by simp)) _) | (refine Below.via ?_ (by assumption) (by first | omega | (simp; done) | (simp; omega) | exact Below.size (by assumption) | exact Nat.le_trans (Below.size (by assumption)) (by simp)))))))).mono ?_; rintro e w7 ⟨u7, rfl, ho7, hb7⟩; obtain ⟨x7, n7, rfl, -, -⟩ := (OwR.of ho7).form; (have hr7 := Lib.hid (Rd.of_own ho7)); clear ho7) | (go_at_call 75; refine (sIndex_p _ _ _ _ (tbS S F) (tbV V F) _ hpt.out hft.out (hr3.out.below (by exact (by repeat (first | exact Below.refl _ _ | assumption | refine Below.drew ?_ | refine below_drewN ?_ _ | refine Below.alloc' ?_ _ | (refine Below.setCell ?_ (by first | omega | (simp; done) | (simp; omega) | exact Below.size (by assumption) | exact Nat.le_trans (Below.size (by assumption)) (by simp)) _) | (refine Below.via' ?_ (by assumption)) | (refine Below.alloc ?_ (by first | omega | (simp; done) | (simp; omega) | exact Below.size (by assumption) | exact Nat.le_trans (Below.size (by assumption)) (by simp)) _) | (refine Below.via ?_ (by assumption) (by first | omega | (simp; done) | (simp; omega) | exact Below.size (by assumption) | exact Nat.le_trans (Below.size (by assumption)) (by simp))))))) ⟨by rw [tbV_len]; have := hip.out.1; omega, tbI64 hVh.out.2.1, hr7.out.below (by exact (by repeat (first | exact Below.refl _ _ | assumption | refine Below.drew ?_ | refine below_drewN ?_ _ | refine Below.alloc' ?_ _ | (refine Below.setCell ?_ (by first | omega | (simp; done) | (simp; omega) | exact Below.size (by assumption) | exact Nat.le_trans (Below.size (by assumption)) (by simp)) _) | (refine Below.via' ?_ (by assumption)) | (refine Below.alloc ?_ (by first | omega | (simp; done) | (simp; omega) | exact Below.size (by assumption) | exact Nat.le_trans (Below.size (by assumption)) (by simp)) _) | (refine Below.via ?_ (by assumption) (by first | omega | (simp; done) | (simp; omega) | exact Below.size (by assumption) | exact Nat.le_trans (Below.size (by assumption)) (by simp))))))⟩).mono ?_; rintro e w8 ⟨rfl, hb8⟩)); rename_i hH; obtain ⟨hb9, hcl9⟩ := hH; have hz9 := hb9.size; (try simp at hz9); (try (have hly9 := Nat.lt_of_succ_le hz9)); (try (have hlx9 := Nat.lt_of_succ_lt hly9)); (try (have hlw9 := Nat.lt_of_succ_lt hlx9)); (try (have hle9 := Nat.le_of_lt hly9)); (try (have hya9 : w.heap.size < w9.heap.size := by omega)); (try (have hyb9 : w.heap.size + 1 < w9.heap.size := by omega)); (try (have hyc9 : w.heap.size + 1 + 1 < w9.heap.size := by omega)); (try (have hyd9 : wa.heap.size < w9.heap.size := by omega))) | fail
    have B8 : Below w.heap.size w w8 := (by repeat (first | exact Below.refl _ _ | assumption | refine Below.drew ?_ | refine below_drewN ?_ _ | refine Below.alloc' ?_ _ | (refine Below.setCell ?_ (by first | omega | (simp; done) | (simp; omega) | exact Below.size (by assumption) | exact Nat.le_trans (Below.size (by assumption)) (by simp)) _) | (refine Below.via' ?_ (by assumption)) | (refine Below.alloc ?_ (by first | omega | (simp; done) | (simp; omega) | exact Below.size (by assumption) | exact Nat.le_trans (Below.size (by assumption)) (by simp)) _) | (refine Below.via ?_ (by assumption) (by first | omega | (simp; done) | (simp; omega) | exact Below.size (by assumption) | exact Nat.le_trans (Below.size (by assumption)) (by simp)))))
    have B38 : Below w3.heap.size w3 w8 := (by repeat (first | exact Below.refl _ _ | assumption | refine Below.drew ?_ | refine below_drewN ?_ _ | refine Below.alloc' ?_ _ | (refine Below.setCell ?_ (by first | omega | (simp; done) | (simp; omega) | exact Below.size (by assumption) | exact Nat.le_trans (Below.size (by assumption)) (by simp)) _) | (refine Below.via' ?_ (by assumption)) | (refine Below.alloc ?_ (by first | omega | (simp; done) | (simp; omega) | exact Below.size (by assumption) | exact Nat.le_trans (Below.size (by assumption)) (by simp)) _) | (refine Below.via ?_ (by assumption) (by first | omega | (simp; done) | (simp; omega) | exact Below.size (by assumption) | exact Nat.le_trans (Below.size (by assumption)) (by simp)))))
    obtain ⟨ta8, tb8, tc8, td8, te8⟩ := t3.out.below B38
    obtain ⟨ra8, rb8, rc8, rd8⟩ := r3.out.below B38
    by_cases hmm : m < 0
    · have hv2 := Lib.hid (hone.out hmm)
      go_wp2
      go_ret2
      exact ⟨ret_ii hv1.out.symm hv2.out.symm, B8⟩
    obtain ⟨q, rfl⟩ := Int.eq_ofNat_of_zero_le (show 0 ≤ m by omega)
    have hql : q < V.length := by have := hth.out.m1; have := fit_len hclh.out.f; omega
    obtain ⟨b9, o9, u9, hv9, hb9, hu9, k9⟩ := (hVh.out.2.2.below B8).int (i := q) hql
    subst hv9
    have hv2 := Lib.hid (hval.out u9 (by omega) (by rw [Int.toNat_natCast]; exact hu9))
    have hq1 : (q : Int) < (V.length : Int) := by omega
    have hq0 : (0 : Int) ≤ (q : Int) := by omega
    replace hu9 := Lib.hid hu9
    replace hmm := Lib.hid hmm
    have hq2 : ¬ (q : Int) < 0 := by omega
    go_wp2
    go_quiet (fail)
    go_wp2
    go_ret2
    exact ⟨ret_ii hv1.out.symm hv2.out.symm, (by repeat (first | exact Below.refl _ _ | assumption | refine Below.drew ?_ | refine below_drewN ?_ _ | refine Below.alloc' ?_ _ | (refine Below.setCell ?_ (by first | omega | (simp; done) | (simp; omega) | exact Below.size (by assumption) | exact Nat.le_trans (Below.size (by assumption)) (by simp)) _) | (refine Below.via' ?_ (by assumption)) | (refine Below.alloc ?_ (by first | omega | (simp; done) | (simp; omega) | exact Below.size (by assumption) | exact Nat.le_trans (Below.size (by assumption)) (by simp)) _) | (refine Below.via ?_ (by assumption) (by first | omega | (simp; done) | (simp; omega) | exact Below.size (by assumption) | exact Nat.le_trans (Below.size (by assumption)) (by simp)))))⟩
  · have hv := Lib.hid (clp_no (P := P) (S := S) (l := l) (F := F) (W := W) (m := m) (k := k) (V := V) (fun q => hz q.1))
    have hzn : anZ P k l < 0 := by omega
    go_enter Try.func88, Try.ntmps88
    go_wp2_with fail
    rw [← hw0]
    replace hw0 := Lib.hid hw0
    refine (gUp_any _ _ P k l _ hgh.out hclh.out.a (hPh.out.below B0)).mono ?_
    rintro e w1 ⟨rfl, hb1⟩
    go_wp2
    go_ret2
    exact ⟨ret_ii hv.out.1.symm hv.out.2.symm, Below.via' B0 hb1⟩
end Go.Proofs.Ytgkaalonmkcclaa

namespace Go.Proofs.Ytgkaalonmkcclaa
open Go.RowKit
set_option maxRecDepth 100000

/-- What ContributionOf answers. -/
def coyB (P : List Int) (S : List (ByteArray × Int)) (l : Int) (F W : List Int) (m a h : Int) (V : List Int) : Bool := tgB P S l F W m && (rokB S (a, h, V) && (lfL P).contains a)
def coyI (P : List Int) (S : List (ByteArray × Int)) (l : Int) (F W : List Int) (m a h : Int) (V : List Int) : Int := if coyB P S l F W m a h V then clI P S l F W a V else 0
def coyN (P : List Int) (S : List (ByteArray × Int)) (l : Int) (F W : List Int) (m a h : Int) (V : List Int) : Int := if coyB P S l F W m a h V then clN P l W m a V else 0
section
variable {P : List Int} {S : List (ByteArray × Int)} {l : Int} {F W : List Int} {m a h : Int} {V : List Int}
theorem coy_no (e : coyB P S l F W m a h V = false) : coyI P S l F W m a h V = 0 ∧ coyN P S l F W m a h V = 0 ∧ coyB P S l F W m a h V = false := ⟨if_f e, if_f e, e⟩
theorem coy_no1 (k : tgB P S l F W m = false) : coyB P S l F W m a h V = false := by unfold coyB; rw [k]; rfl
theorem coy_no2 (k : (rokB S (a, h, V) && (lfL P).contains a) = false) : coyB P S l F W m a h V = false := by unfold coyB; rw [k, Bool.and_false]
theorem coy_yes (k : TgP P S l F W m) (q : (rokB S (a, h, V) && (lfL P).contains a) = true) : coyI P S l F W m a h V = clI P S l F W a V ∧ coyN P S l F W m a h V = clN P l W m a V ∧ coyB P S l F W m a h V = true := by
  have e : coyB P S l F W m a h V = true := by unfold coyB; rw [tg_iff.2 k, q]; rfl
  exact ⟨if_t e, if_t e, e⟩
theorem coy_cl (q : (rokB S (a, h, V) && (lfL P).contains a) = true) : ∃ k : Nat, a = k ∧ ClP P S k V := by
  rw [Bool.and_eq_true, List.contains_iff_mem] at q
  obtain ⟨k, hk, hl, -⟩ := sel_mem.1 q.2
  have h1 := q.1
  unfold rokB at h1
  simp only [Bool.and_eq_true] at h1
  exact ⟨k, hk, ⟨hl, h1.2⟩⟩
theorem coy_sv : (dokB S [(a, h, V)] && tyB P [(a, h, V)]) = (rokB S (a, h, V) && (lfL P).contains a) := by
  unfold dokB tyB
  simp
end
theorem ret_iib {a b d e : Int} {p q : Bool} (h : a = b) (k : d = e) (r : p = q) : Ending.returned (.tuple #[.int .i64 a, .int .i64 d, .bool p]) = .returned (.tuple #[.int .i64 b, .int .i64 e, .bool q]) := by rw [h, k, r]
/-- A list of one record, just laid. -/
theorem dIn_oneT {w : World} {v : Option Addr} {c4 : Nat} {V : List Int} (a h : Int) (hV : IIn w v V) (ha : IsI64 a) (hh : IsI64 h) : DIn (w.alloc (.cells #[.int .i64 a, .int .i64 h, .slice v V.length c4] 72)) (some ⟨w.heap.size, 0, none⟩) [⟨a, h, v, c4, V⟩] := by
  refine ⟨by simp, ?_, ?_⟩
  · intro q hq
    simp at hq
    subst hq
    exact ⟨ha, hh, hV.below (Below.alloc' (Below.refl _ _) _)⟩
  · refine Or.inr ⟨w.heap.size, 0, rfl, by simp, fun j u hj => ?_⟩
    rw [Nat.zero_add, World.cell?_alloc_at _ _ _ _ rfl, ← Array.getElem?_toList]
    exact hj
set_option maxHeartbeats 16000000 in
theorem iCoy_x (p y x z v : Option Addr) (c c1 c2 c3 c4 : Nat) (P : List Int) (S : List (ByteArray × Int)) (l : Int) (F W : List Int) (m a h : Int) (V : List Int) (w : World) (hP : IIn w p P) (hS : SIn w y c1 S) (hT : TIn w x z F W) (hV : IIn w v V) (hah : IsI64 a ∧ IsI64 h) :
    Calls Try.prog 48 #[.agg #[.slice p P.length c], .slice y S.length c1, .agg #[.int .i64 l, .slice x F.length c2, .slice z W.length c3, .int .i64 m], .agg #[.int .i64 a, .int .i64 h, .slice v V.length c4]] w fun e w' => e = .returned (.tuple #[.int .i64 (coyI P S l F W m a h V), .int .i64 (coyN P S l F W m a h V), .bool (coyB P S l F W m a h V)]) ∧ Below w.heap.size w w' := by
  have hVh := Lib.hid hV
  have hahh := Lib.hid hah
  clear hV hah
  have hPh := Lib.hid hP
  have hSh := Lib.hid hS
  have hFh := Lib.hid hT.1
  have hWh := Lib.hid hT.2
  clear hP hS hT
  have p1 := Lib.hid (QB.new w p P.length c 33)
  have p2 := Lib.hid (TQ.new (w.alloc (.cells #[.slice p P.length c] 33)) l x F.length c2 z W.length c3 m 37)
  have p3 := Lib.hid (RB.new ((w.alloc (.cells #[.slice p P.length c] 33)).alloc (.cells #[.int .i64 l, .slice x F.length c2, .slice z W.length c3, .int .i64 m] 37)) a h v V.length c4 72)
  obtain ⟨w0, hw0⟩ : ∃ w0, w0 = ((w.alloc (.cells #[.slice p P.length c] 33)).alloc (.cells #[.int .i64 l, .slice x F.length c2, .slice z W.length c3, .int .i64 m] 37)).alloc (.cells #[.int .i64 a, .int .i64 h, .slice v V.length c4] 72) := ⟨_, rfl⟩
  have B0 : Below w.heap.size w w0 := by rw [hw0]; exact (by repeat (first | exact Below.refl _ _ | assumption | refine Below.drew ?_ | refine below_drewN ?_ _ | refine Below.alloc' ?_ _ | (refine Below.setCell ?_ (by first | omega | (simp; done) | (simp; omega) | exact Below.size (by assumption) | exact Nat.le_trans (Below.size (by assumption)) (by simp)) _) | (refine Below.via' ?_ (by assumption)) | (refine Below.alloc ?_ (by first | omega | (simp; done) | (simp; omega) | exact Below.size (by assumption) | exact Nat.le_trans (Below.size (by assumption)) (by simp)) _) | (refine Below.via ?_ (by assumption) (by first | omega | (simp; done) | (simp; omega) | exact Below.size (by assumption) | exact Nat.le_trans (Below.size (by assumption)) (by simp)))))
  have g0 : Hid (QB w0 w.heap.size p P.length c) := by
    rw [hw0]
    exact p1.out.below (show Below (w.alloc (.cells #[.slice p P.length c] 33)).heap.size (w.alloc (.cells #[.slice p P.length c] 33)) _ from (by repeat (first | exact Below.refl _ _ | assumption | refine Below.drew ?_ | refine below_drewN ?_ _ | refine Below.alloc' ?_ _ | (refine Below.setCell ?_ (by first | omega | (simp; done) | (simp; omega) | exact Below.size (by assumption) | exact Nat.le_trans (Below.size (by assumption)) (by simp)) _) | (refine Below.via' ?_ (by assumption)) | (refine Below.alloc ?_ (by first | omega | (simp; done) | (simp; omega) | exact Below.size (by assumption) | exact Nat.le_trans (Below.size (by assumption)) (by simp)) _) | (refine Below.via ?_ (by assumption) (by first | omega | (simp; done) | (simp; omega) | exact Below.size (by assumption) | exact Nat.le_trans (Below.size (by assumption)) (by simp))))))
  have t0 : Hid (TQ w0 (w.heap.size + 1) l x F.length c2 z W.length c3 m) := by
    rw [hw0]
    have h0 := p2.out.below (show Below ((w.alloc (.cells #[.slice p P.length c] 33)).alloc (.cells #[.int .i64 l, .slice x F.length c2, .slice z W.length c3, .int .i64 m] 37)).heap.size ((w.alloc (.cells #[.slice p P.length c] 33)).alloc (.cells #[.int .i64 l, .slice x F.length c2, .slice z W.length c3, .int .i64 m] 37)) (((w.alloc (.cells #[.slice p P.length c] 33)).alloc (.cells #[.int .i64 l, .slice x F.length c2, .slice z W.length c3, .int .i64 m] 37)).alloc (.cells #[.int .i64 a, .int .i64 h, .slice v V.length c4] 72)) from (by repeat (first | exact Below.refl _ _ | assumption | refine Below.drew ?_ | refine below_drewN ?_ _ | refine Below.alloc' ?_ _ | (refine Below.setCell ?_ (by first | omega | (simp; done) | (simp; omega) | exact Below.size (by assumption) | exact Nat.le_trans (Below.size (by assumption)) (by simp)) _) | (refine Below.via' ?_ (by assumption)) | (refine Below.alloc ?_ (by first | omega | (simp; done) | (simp; omega) | exact Below.size (by assumption) | exact Nat.le_trans (Below.size (by assumption)) (by simp)) _) | (refine Below.via ?_ (by assumption) (by first | omega | (simp; done) | (simp; omega) | exact Below.size (by assumption) | exact Nat.le_trans (Below.size (by assumption)) (by simp))))))
    rw [World.size_alloc] at h0
    exact h0
  have r0 : Hid (RB w0 (w.heap.size + 1 + 1) a h v V.length c4) := by
    have h0 := p3.out
    rw [World.size_alloc, World.size_alloc, ← hw0] at h0
    exact h0
  clear p1 p2 p3
  go_enter Try.func48, Try.ntmps48
  go_wp2_with fail
  rw [← hw0]
  replace hw0 := Lib.hid hw0
  refine (gridOf_any p y x z _ _ _ _ P S l m F W _ (hPh.out.below B0) (hSh.out.below B0) ⟨hFh.out.below B0, hWh.out.below B0⟩).mono ?_
  rintro e w1 ⟨hb1, h1⟩
  have B1 : Below w.heap.size w w1 := Below.via' B0 hb1
  have g1 := Lib.hid (g0.out.below hb1)
  have t1 := Lib.hid (t0.out.below hb1)
  have r1 := Lib.hid (r0.out.below hb1)
  obtain ⟨ka1, kb1, kc1⟩ := g1.out
  obtain ⟨ta1, tb1, tc1, td1, te1⟩ := t1.out
  obtain ⟨ra1, rb1, rc1, rd1⟩ := r1.out
  try clear ka0 kb0 kc0 ta0 tb0 tc0 td0 te0 ra0 rb0 rc0 rd0
  rcases h1 with ⟨hno, rfl⟩ | ⟨htg, ga, ca, va, rfl, hA, hV, hvl⟩
  · have hv := Lib.hid (coy_no (coy_no1 (a := a) (h := h) (V := V) (tg_no hno)))
    clear hno
    go_wp2
    go_ret3
    exact ⟨ret_iib hv.out.1.symm hv.out.2.1.symm hv.out.2.2.symm, (by repeat (first | exact Below.refl _ _ | assumption | refine Below.drew ?_ | refine below_drewN ?_ _ | refine Below.alloc' ?_ _ | (refine Below.setCell ?_ (by first | omega | (simp; done) | (simp; omega) | exact Below.size (by assumption) | exact Nat.le_trans (Below.size (by assumption)) (by simp)) _) | (refine Below.via' ?_ (by assumption)) | (refine Below.alloc ?_ (by first | omega | (simp; done) | (simp; omega) | exact Below.size (by assumption) | exact Nat.le_trans (Below.size (by assumption)) (by simp)) _) | (refine Below.via ?_ (by assumption) (by first | omega | (simp; done) | (simp; omega) | exact Below.size (by assumption) | exact Nat.le_trans (Below.size (by assumption)) (by simp)))))⟩
  have hth := Lib.hid htg
  have hAh := Lib.hid hA
  have hPt := Lib.hid hV
  clear htg hA hV
  have hG1 := Lib.hid (g7_of_wb (Wb.new w1 91 #[.slice p P.length c, .int .i64 l, .slice x F.length c2, .slice z W.length c3, .int .i64 m, .slice ga (lvL P l).length ca, .slice (some ⟨va, 0, none⟩) (tbS S F).length (tbS S F).length]))
  obtain ⟨W2, hW2⟩ : ∃ W2, W2 = w1.alloc (.cells #[.slice p P.length c, .int .i64 l, .slice x F.length c2, .slice z W.length c3, .int .i64 m, .slice ga (lvL P l).length ca, .slice (some ⟨va, 0, none⟩) (tbS S F).length (tbS S F).length] 91) := ⟨_, rfl⟩
  have BW : Below w1.heap.size w1 W2 := by rw [hW2]; exact Below.alloc' (Below.refl _ _) _
  have BW2 : Below w.heap.size w W2 := Below.via' B1 BW
  rw [← hW2] at hG1
  have hD := Lib.hid (dIn_oneT (w := W2) (c4 := c4) a h (hVh.out.below BW2) hahh.out.1 hahh.out.2)
  have BD : Below W2.heap.size W2 (W2.alloc (.cells #[.int .i64 a, .int .i64 h, .slice v V.length c4] 72)) := Below.alloc' (Below.refl _ _) _
  have hG2 := Lib.hid (hG1.out.below BD)
  obtain ⟨W3, hW3⟩ : ∃ W3, W3 = W2.alloc (.cells #[.int .i64 a, .int .i64 h, .slice v V.length c4] 72) := ⟨_, rfl⟩
  rw [← hW3] at BD hG2 hD
  have zW : W2.heap.size = w1.heap.size + 1 := by rw [hW2, World.size_alloc]
  rw [zW] at hD
  have BD1 : Below w1.heap.size w1 W3 := Below.via' BW BD
  have BD2 : Below w.heap.size w W3 := Below.via' BW2 BD
  rw [hW2] at hW3
  replace hW2 := Lib.hid hW2
  replace hW3 := Lib.hid hW3
  replace zW := Lib.hid zW
  go_wp2_with fail
  rw [← hW3.out]
  refine (isSurveyFor_any _ _ _ _ _ _ P S [⟨a, h, v, c4, V⟩] _ hth.out.g hth.out.s (hPh.out.below BD2) (hSh.out.below BD2) hD.out).mono ?_
  rintro e w4 ⟨rfl, hb4⟩
  have hsy := Lib.hid (coy_sv (P := P) (S := S) (a := a) (h := h) (V := V))
  have B14 := Below.via' BD1 hb4
  have B4 := Below.via' B1 B14
  have hG4 := Lib.hid (hG2.out.below hb4)
  obtain ⟨j0, j1, j2, j3, j4, j5, j6, jl⟩ := hG4.out
  obtain ⟨ra4, rb4, rc4, rd4⟩ := r1.out.below B14
  clear hb4 ka1 kb1 kc1 ta1 tb1 tc1 td1 te1 ra1 rb1 rc1 rd1
  rw [show (dokB S (pM [⟨a, h, v, c4, V⟩]) && tyB P (pM [⟨a, h, v, c4, V⟩])) = (rokB S (a, h, V) && (lfL P).contains a) from hsy.out]
  cases hsv : (rokB S (a, h, V) && (lfL P).contains a)
  · have hv := Lib.hid (coy_no (coy_no2 (l := l) (F := F) (W := W) (m := m) hsv))
    go_wp2
    go_ret3
    exact ⟨ret_iib hv.out.1.symm hv.out.2.1.symm hv.out.2.2.symm, B4⟩
  have hv := Lib.hid (coy_yes hth.out hsv)
  obtain ⟨k, rfl, hcl⟩ := coy_cl hsv
  replace hsv := Lib.hid hsv
  go_wp2_with fail
  refine (contrib_any _ _ _ _ _ _ _ _ _ _ _ _ P S l F W m k h V _ hth.out hcl (hPh.out.below B4) (hFh.out.below B4) (hWh.out.below B4) (hAh.out.below B14) (hPt.out.below B14) (hVh.out.below B4)).mono ?_
  rintro e w5 ⟨rfl, hb5⟩
  go_wp2
  go_ret3
  exact ⟨ret_iib hv.out.1.symm hv.out.2.1.symm hv.out.2.2.symm, Below.via' B4 hb5⟩
set_option maxHeartbeats 16000000 in
theorem sCoy_x (p y x z v : Option Addr) (c c1 c2 c3 c4 : Nat) (P : List Int) (S : List (ByteArray × Int)) (l : Int) (F W : List Int) (m a h : Int) (V : List Int) (w : World) (hP : IIn w p P) (hS : SIn w y c1 S) (hT : TIn w x z F W) (hV : IIn w v V) (hah : IsI64 a ∧ IsI64 h) :
    Calls Try.prog 46 #[.agg #[.slice p P.length c], .slice y S.length c1, .agg #[.int .i64 l, .slice x F.length c2, .slice z W.length c3, .int .i64 m], .agg #[.int .i64 a, .int .i64 h, .slice v V.length c4]] w fun e w' => e = .returned (.tuple #[.int .i64 (coyI P S l F W m a h V), .int .i64 (coyN P S l F W m a h V), .bool (coyB P S l F W m a h V)]) ∧ Below w.heap.size w w' := by
  have hVh := Lib.hid hV
  obtain ⟨-, -⟩ := hah
  clear hV
  have hPh := Lib.hid hP
  have hSh := Lib.hid hS
  have hFh := Lib.hid hT.1
  have hWh := Lib.hid hT.2
  clear hP hS hT
  have p1 := Lib.hid (QB.new w p P.length c 33)
  have p2 := Lib.hid (TQ.new (w.alloc (.cells #[.slice p P.length c] 33)) l x F.length c2 z W.length c3 m 37)
  have p3 := Lib.hid (RB.new ((w.alloc (.cells #[.slice p P.length c] 33)).alloc (.cells #[.int .i64 l, .slice x F.length c2, .slice z W.length c3, .int .i64 m] 37)) a h v V.length c4 72)
  obtain ⟨w0, hw0⟩ : ∃ w0, w0 = ((w.alloc (.cells #[.slice p P.length c] 33)).alloc (.cells #[.int .i64 l, .slice x F.length c2, .slice z W.length c3, .int .i64 m] 37)).alloc (.cells #[.int .i64 a, .int .i64 h, .slice v V.length c4] 72) := ⟨_, rfl⟩
  have B0 : Below w.heap.size w w0 := by rw [hw0]; exact (by repeat (first | exact Below.refl _ _ | assumption | refine Below.drew ?_ | refine below_drewN ?_ _ | refine Below.alloc' ?_ _ | (refine Below.setCell ?_ (by first | omega | (simp; done) | (simp; omega) | exact Below.size (by assumption) | exact Nat.le_trans (Below.size (by assumption)) (by simp)) _) | (refine Below.via' ?_ (by assumption)) | (refine Below.alloc ?_ (by first | omega | (simp; done) | (simp; omega) | exact Below.size (by assumption) | exact Nat.le_trans (Below.size (by assumption)) (by simp)) _) | (refine Below.via ?_ (by assumption) (by first | omega | (simp; done) | (simp; omega) | exact Below.size (by assumption) | exact Nat.le_trans (Below.size (by assumption)) (by simp)))))
  have g0 : Hid (QB w0 w.heap.size p P.length c) := by
    rw [hw0]
    exact p1.out.below (show Below (w.alloc (.cells #[.slice p P.length c] 33)).heap.size (w.alloc (.cells #[.slice p P.length c] 33)) _ from (by repeat (first | exact Below.refl _ _ | assumption | refine Below.drew ?_ | refine below_drewN ?_ _ | refine Below.alloc' ?_ _ | (refine Below.setCell ?_ (by first | omega | (simp; done) | (simp; omega) | exact Below.size (by assumption) | exact Nat.le_trans (Below.size (by assumption)) (by simp)) _) | (refine Below.via' ?_ (by assumption)) | (refine Below.alloc ?_ (by first | omega | (simp; done) | (simp; omega) | exact Below.size (by assumption) | exact Nat.le_trans (Below.size (by assumption)) (by simp)) _) | (refine Below.via ?_ (by assumption) (by first | omega | (simp; done) | (simp; omega) | exact Below.size (by assumption) | exact Nat.le_trans (Below.size (by assumption)) (by simp))))))
  have t0 : Hid (TQ w0 (w.heap.size + 1) l x F.length c2 z W.length c3 m) := by
    rw [hw0]
    have h0 := p2.out.below (show Below ((w.alloc (.cells #[.slice p P.length c] 33)).alloc (.cells #[.int .i64 l, .slice x F.length c2, .slice z W.length c3, .int .i64 m] 37)).heap.size ((w.alloc (.cells #[.slice p P.length c] 33)).alloc (.cells #[.int .i64 l, .slice x F.length c2, .slice z W.length c3, .int .i64 m] 37)) (((w.alloc (.cells #[.slice p P.length c] 33)).alloc (.cells #[.int .i64 l, .slice x F.length c2, .slice z W.length c3, .int .i64 m] 37)).alloc (.cells #[.int .i64 a, .int .i64 h, .slice v V.length c4] 72)) from (by repeat (first | exact Below.refl _ _ | assumption | refine Below.drew ?_ | refine below_drewN ?_ _ | refine Below.alloc' ?_ _ | (refine Below.setCell ?_ (by first | omega | (simp; done) | (simp; omega) | exact Below.size (by assumption) | exact Nat.le_trans (Below.size (by assumption)) (by simp)) _) | (refine Below.via' ?_ (by assumption)) | (refine Below.alloc ?_ (by first | omega | (simp; done) | (simp; omega) | exact Below.size (by assumption) | exact Nat.le_trans (Below.size (by assumption)) (by simp)) _) | (refine Below.via ?_ (by assumption) (by first | omega | (simp; done) | (simp; omega) | exact Below.size (by assumption) | exact Nat.le_trans (Below.size (by assumption)) (by simp))))))
    rw [World.size_alloc] at h0
    exact h0
  have r0 : Hid (RB w0 (w.heap.size + 1 + 1) a h v V.length c4) := by
    have h0 := p3.out
    rw [World.size_alloc, World.size_alloc, ← hw0] at h0
    exact h0
  clear p1 p2 p3
  have hkz : w.heap.size < w0.heap.size := g0.out.2.2
  have htz : w.heap.size + 1 < w0.heap.size := t0.out.2.2.2.2
  have hrz : w.heap.size + 1 + 1 < w0.heap.size := r0.out.2.2.2
  obtain ⟨ka, kb, kc⟩ := g0.out
  obtain ⟨ta, tb, tc, td, te⟩ := t0.out
  obtain ⟨ra, rb, rc, rd⟩ := r0.out
  go_enter Try.func46, Try.ntmps46
  go_wp2
  rw [← hw0]
  replace hw0 := Lib.hid hw0
  have hcase : tgB P S l F W m = false ∨ (tgB P S l F W m = true ∧ rokB S (a, h, V) = false) ∨ (tgB P S l F W m = true ∧ rokB S (a, h, V) = true ∧ (lfL P).contains a = false) ∨ (tgB P S l F W m = true ∧ rokB S (a, h, V) = true ∧ (lfL P).contains a = true) := by
    cases tgB P S l F W m <;> cases rokB S (a, h, V) <;> cases (lfL P).contains a <;> simp
  rcases hcase with htg | ⟨htg, hrk⟩ | ⟨htg, hrk, hlf⟩ | ⟨htg, hrk, hlf⟩
  · have hv := Lib.hid (coy_no (coy_no1 (a := a) (h := h) (V := V) htg))
    refine wp_region_held_drew (S := fun X => Below w0.heap.size w0 X) (by kernel_rfl) (Below.drew (Below.refl _ _)) (fun hH => ?_)
    refine wpAnyH_take (i := 0) (v := ?_) rfl (by kernel_rfl) (by kernel_rfl) (by kernel_rfl) (fun _ _ _ h => h) (Or.inl ⟨by rfl, ?_⟩) (by assumption) ?_; rotate_left; · (intro wz hz; (have f0 := (hz.cell (p := ⟨w.heap.size, 0, none⟩) hkz).trans ka; have f1 := (hz.cell (p := ⟨w.heap.size + 1, 0, none⟩) htz).trans ta; have f2 := (hz.cell (p := ⟨w.heap.size + 1, 1, none⟩) htz).trans tb; have f3 := (hz.cell (p := ⟨w.heap.size + 1, 2, none⟩) htz).trans tc; have f4 := (hz.cell (p := ⟨w.heap.size + 1, 3, none⟩) htz).trans td; have f5 := (hz.cell (p := ⟨w.heap.size + 1 + 1, 0, none⟩) hrz).trans ra; have f6 := (hz.cell (p := ⟨w.heap.size + 1 + 1, 1, none⟩) hrz).trans rb; have f7 := (hz.cell (p := ⟨w.heap.size + 1 + 1, 2, none⟩) hrz).trans rc); clear hz; go_simp; try with_reducible rfl); (try simp only [Act.put, List.getElem_toArray, List.getElem_cons_succ, List.getElem_cons_zero, List.setIfInBounds_toArray, List.set_cons_zero, List.set_cons_succ])
    refine wpAnyH_take (i := 1) (v := ?_) rfl (by kernel_rfl) (by kernel_rfl) (by kernel_rfl) (fun _ _ _ h => h) (Or.inl ⟨by rfl, ?_⟩) (by assumption) ?_; rotate_left; · (intro wz hz; (skip); clear hz; go_simp; try with_reducible rfl); (try simp only [Act.put, List.getElem_toArray, List.getElem_cons_succ, List.getElem_cons_zero, List.setIfInBounds_toArray, List.set_cons_zero, List.set_cons_succ])
    refine wpAnyH_take (i := 2) (v := ?_) rfl (by kernel_rfl) (by kernel_rfl) (by kernel_rfl) (fun _ _ _ h => h) (Or.inl ⟨by rfl, ?_⟩) (by assumption) ?_; rotate_left; · (intro wz hz; (have f0 := (hz.cell (p := ⟨w.heap.size, 0, none⟩) hkz).trans ka; have f1 := (hz.cell (p := ⟨w.heap.size + 1, 0, none⟩) htz).trans ta; have f2 := (hz.cell (p := ⟨w.heap.size + 1, 1, none⟩) htz).trans tb; have f3 := (hz.cell (p := ⟨w.heap.size + 1, 2, none⟩) htz).trans tc; have f4 := (hz.cell (p := ⟨w.heap.size + 1, 3, none⟩) htz).trans td; have f5 := (hz.cell (p := ⟨w.heap.size + 1 + 1, 0, none⟩) hrz).trans ra; have f6 := (hz.cell (p := ⟨w.heap.size + 1 + 1, 1, none⟩) hrz).trans rb; have f7 := (hz.cell (p := ⟨w.heap.size + 1 + 1, 2, none⟩) hrz).trans rc); clear hz; go_simp; try with_reducible rfl); (try simp only [Act.put, List.getElem_toArray, List.getElem_cons_succ, List.getElem_cons_zero, List.setIfInBounds_toArray, List.set_cons_zero, List.set_cons_succ])
    refine wpAnyH_ready (rs := [3]) (by kernel_rfl) (by simp) (AllReadyH.cons rfl (fun K hK => ?_) AllReadyH.nil); go_simp
    refine (uGood_any p y x z _ _ _ _ P S l m F W _ (hPh.out.below (Below.via' B0 hH)) (hSh.out.below (Below.via' B0 hH)) ⟨hFh.out.below (Below.via' B0 hH), hWh.out.below (Below.via' B0 hH)⟩).mono ?_
    rintro e w1 ⟨rfl, hb1⟩
    rw [htg]
    refine hK.out _ _ (Below.via' hH hb1) (fun h1 => ?_)
    clear hK K
    (try simp only [Act.put, List.getElem_toArray, List.getElem_cons_succ, List.getElem_cons_zero, List.setIfInBounds_toArray, List.set_cons_zero, List.set_cons_succ])
    refine wpAnyH_take (i := 4) (v := ?_) rfl (by kernel_rfl) (by kernel_rfl) (by kernel_rfl) (fun _ _ _ h => h) (Or.inl ⟨by rfl, ?_⟩) (by assumption) ?_; rotate_left; · (intro wz hz; (skip); clear hz; go_simp; try with_reducible rfl); (try simp only [Act.put, List.getElem_toArray, List.getElem_cons_succ, List.getElem_cons_zero, List.setIfInBounds_toArray, List.set_cons_zero, List.set_cons_succ])
    refine wpAnyH_take (i := 5) (v := ?_) rfl (by kernel_rfl) (by kernel_rfl) (by kernel_rfl) (fun _ _ _ h => h) (Or.inl ⟨by rfl, ?_⟩) (by assumption) ?_; rotate_left; · (intro wz hz; (skip); clear hz; go_simp; try with_reducible rfl); (try simp only [Act.put, List.getElem_toArray, List.getElem_cons_succ, List.getElem_cons_zero, List.setIfInBounds_toArray, List.set_cons_zero, List.set_cons_succ])
    refine wpAnyH_take (i := 6) (v := undef) rfl (by kernel_rfl) (by kernel_rfl) (by kernel_rfl) (fun _ _ _ h => h) (Or.inr ⟨by rfl, rfl⟩) (by assumption) ?_; (try simp only [Act.put, List.getElem_toArray, List.getElem_cons_succ, List.getElem_cons_zero, List.setIfInBounds_toArray, List.set_cons_zero, List.set_cons_succ])
    refine wpAnyH_take (i := 7) (v := undef) rfl (by kernel_rfl) (by kernel_rfl) (by kernel_rfl) (fun _ _ _ h => h) (Or.inr ⟨by rfl, rfl⟩) (by assumption) ?_; (try simp only [Act.put, List.getElem_toArray, List.getElem_cons_succ, List.getElem_cons_zero, List.setIfInBounds_toArray, List.set_cons_zero, List.set_cons_succ])
    refine wpAnyH_take (i := 8) (v := undef) rfl (by kernel_rfl) (by kernel_rfl) (by kernel_rfl) (fun _ _ _ h => h) (Or.inr ⟨by rfl, rfl⟩) (by assumption) ?_; (try simp only [Act.put, List.getElem_toArray, List.getElem_cons_succ, List.getElem_cons_zero, List.setIfInBounds_toArray, List.set_cons_zero, List.set_cons_succ])
    refine wpAnyH_take (i := 9) (v := undef) rfl (by kernel_rfl) (by kernel_rfl) (by kernel_rfl) (fun _ _ _ h => h) (Or.inr ⟨by rfl, rfl⟩) (by assumption) ?_; (try simp only [Act.put, List.getElem_toArray, List.getElem_cons_succ, List.getElem_cons_zero, List.setIfInBounds_toArray, List.set_cons_zero, List.set_cons_succ])
    refine wpAnyH_take (i := 10) (v := ?_) rfl (by kernel_rfl) (by kernel_rfl) (by kernel_rfl) (fun _ _ _ h => h) (Or.inl ⟨by rfl, ?_⟩) (by assumption) ?_; rotate_left; · (intro wz hz; (skip); clear hz; go_simp; try with_reducible rfl); (try simp only [Act.put, List.getElem_toArray, List.getElem_cons_succ, List.getElem_cons_zero, List.setIfInBounds_toArray, List.set_cons_zero, List.set_cons_succ])
    refine wpAnyH_take (i := 11) (v := ?_) rfl (by kernel_rfl) (by kernel_rfl) (by kernel_rfl) (fun _ _ _ h => h) (Or.inl ⟨by rfl, ?_⟩) (by assumption) ?_; rotate_left; · (intro wz hz; (skip); clear hz; go_simp; try with_reducible rfl); (try simp only [Act.put, List.getElem_toArray, List.getElem_cons_succ, List.getElem_cons_zero, List.setIfInBounds_toArray, List.set_cons_zero, List.set_cons_succ])
    refine wpAnyH_take (i := 12) (v := undef) rfl (by kernel_rfl) (by kernel_rfl) (by kernel_rfl) (fun _ _ _ h => h) (Or.inr ⟨by rfl, rfl⟩) (by assumption) ?_; (try simp only [Act.put, List.getElem_toArray, List.getElem_cons_succ, List.getElem_cons_zero, List.setIfInBounds_toArray, List.set_cons_zero, List.set_cons_succ])
    refine wpAnyH_take (i := 13) (v := undef) rfl (by kernel_rfl) (by kernel_rfl) (by kernel_rfl) (fun _ _ _ h => h) (Or.inr ⟨by rfl, rfl⟩) (by assumption) ?_; (try simp only [Act.put, List.getElem_toArray, List.getElem_cons_succ, List.getElem_cons_zero, List.setIfInBounds_toArray, List.set_cons_zero, List.set_cons_succ])
    refine wpAnyH_take (i := 14) (v := undef) rfl (by kernel_rfl) (by kernel_rfl) (by kernel_rfl) (fun _ _ _ h => h) (Or.inr ⟨by rfl, rfl⟩) (by assumption) ?_; (try simp only [Act.put, List.getElem_toArray, List.getElem_cons_succ, List.getElem_cons_zero, List.setIfInBounds_toArray, List.set_cons_zero, List.set_cons_succ])
    refine wpAnyH_take (i := 15) (v := undef) rfl (by kernel_rfl) (by kernel_rfl) (by kernel_rfl) (fun _ _ _ h => h) (Or.inr ⟨by rfl, rfl⟩) (by assumption) ?_; (try simp only [Act.put, List.getElem_toArray, List.getElem_cons_succ, List.getElem_cons_zero, List.setIfInBounds_toArray, List.set_cons_zero, List.set_cons_succ])
    refine wpAnyH_take (i := 16) (v := undef) rfl (by kernel_rfl) (by kernel_rfl) (by kernel_rfl) (fun _ _ _ h => h) (Or.inr ⟨by rfl, rfl⟩) (by assumption) ?_; (try simp only [Act.put, List.getElem_toArray, List.getElem_cons_succ, List.getElem_cons_zero, List.setIfInBounds_toArray, List.set_cons_zero, List.set_cons_succ])
    refine wpAnyH_take (i := 17) (v := undef) rfl (by kernel_rfl) (by kernel_rfl) (by kernel_rfl) (fun _ _ _ h => h) (Or.inr ⟨by rfl, rfl⟩) (by assumption) ?_; (try simp only [Act.put, List.getElem_toArray, List.getElem_cons_succ, List.getElem_cons_zero, List.setIfInBounds_toArray, List.set_cons_zero, List.set_cons_succ])
    refine wpAnyH_take (i := 18) (v := ?_) rfl (by kernel_rfl) (by kernel_rfl) (by kernel_rfl) (fun _ _ _ h => h) (Or.inl ⟨by rfl, ?_⟩) (by assumption) ?_; rotate_left; · (intro wz hz; (skip); clear hz; go_simp; try with_reducible rfl); (try simp only [Act.put, List.getElem_toArray, List.getElem_cons_succ, List.getElem_cons_zero, List.setIfInBounds_toArray, List.set_cons_zero, List.set_cons_succ])
    refine wpAnyH_done (by kernel_rfl) ?_ _
    go_wp2
    go_ret3
    exact ⟨ret_iib hv.out.1.symm hv.out.2.1.symm hv.out.2.2.symm, Below.via' B0 h1⟩
  · have hv := Lib.hid (coy_no (coy_no2 (P := P) (l := l) (F := F) (W := W) (m := m) (a := a) (h := h) (V := V) (by rw [hrk]; rfl)))
    have hth := Lib.hid (tg_iff.1 htg)
    have hsh := Lib.hid hth.out.s
    have hgh := Lib.hid hth.out.g
    have hl30 := (ge_len hth.out.g).2
    have hm' : S.length ≤ 1048576 := by have := (schB_len hsh.out).2; omega
    refine wp_region_held_drew (S := fun X => Below w0.heap.size w0 X) (by kernel_rfl) (Below.drew (Below.refl _ _)) (fun hH => ?_)
    refine wpAnyH_take (i := 0) (v := ?_) rfl (by kernel_rfl) (by kernel_rfl) (by kernel_rfl) (fun _ _ _ h => h) (Or.inl ⟨by rfl, ?_⟩) (by assumption) ?_; rotate_left; · (intro wz hz; (have f0 := (hz.cell (p := ⟨w.heap.size, 0, none⟩) hkz).trans ka; have f1 := (hz.cell (p := ⟨w.heap.size + 1, 0, none⟩) htz).trans ta; have f2 := (hz.cell (p := ⟨w.heap.size + 1, 1, none⟩) htz).trans tb; have f3 := (hz.cell (p := ⟨w.heap.size + 1, 2, none⟩) htz).trans tc; have f4 := (hz.cell (p := ⟨w.heap.size + 1, 3, none⟩) htz).trans td; have f5 := (hz.cell (p := ⟨w.heap.size + 1 + 1, 0, none⟩) hrz).trans ra; have f6 := (hz.cell (p := ⟨w.heap.size + 1 + 1, 1, none⟩) hrz).trans rb; have f7 := (hz.cell (p := ⟨w.heap.size + 1 + 1, 2, none⟩) hrz).trans rc); clear hz; go_simp; try with_reducible rfl); (try simp only [Act.put, List.getElem_toArray, List.getElem_cons_succ, List.getElem_cons_zero, List.setIfInBounds_toArray, List.set_cons_zero, List.set_cons_succ])
    refine wpAnyH_take (i := 1) (v := ?_) rfl (by kernel_rfl) (by kernel_rfl) (by kernel_rfl) (fun _ _ _ h => h) (Or.inl ⟨by rfl, ?_⟩) (by assumption) ?_; rotate_left; · (intro wz hz; (skip); clear hz; go_simp; try with_reducible rfl); (try simp only [Act.put, List.getElem_toArray, List.getElem_cons_succ, List.getElem_cons_zero, List.setIfInBounds_toArray, List.set_cons_zero, List.set_cons_succ])
    refine wpAnyH_take (i := 2) (v := ?_) rfl (by kernel_rfl) (by kernel_rfl) (by kernel_rfl) (fun _ _ _ h => h) (Or.inl ⟨by rfl, ?_⟩) (by assumption) ?_; rotate_left; · (intro wz hz; (have f0 := (hz.cell (p := ⟨w.heap.size, 0, none⟩) hkz).trans ka; have f1 := (hz.cell (p := ⟨w.heap.size + 1, 0, none⟩) htz).trans ta; have f2 := (hz.cell (p := ⟨w.heap.size + 1, 1, none⟩) htz).trans tb; have f3 := (hz.cell (p := ⟨w.heap.size + 1, 2, none⟩) htz).trans tc; have f4 := (hz.cell (p := ⟨w.heap.size + 1, 3, none⟩) htz).trans td; have f5 := (hz.cell (p := ⟨w.heap.size + 1 + 1, 0, none⟩) hrz).trans ra; have f6 := (hz.cell (p := ⟨w.heap.size + 1 + 1, 1, none⟩) hrz).trans rb; have f7 := (hz.cell (p := ⟨w.heap.size + 1 + 1, 2, none⟩) hrz).trans rc); clear hz; go_simp; try with_reducible rfl); (try simp only [Act.put, List.getElem_toArray, List.getElem_cons_succ, List.getElem_cons_zero, List.setIfInBounds_toArray, List.set_cons_zero, List.set_cons_succ])
    refine wpAnyH_ready (rs := [3]) (by kernel_rfl) (by simp) (AllReadyH.cons rfl (fun K hK => ?_) AllReadyH.nil); go_simp
    refine (uGood_any p y x z _ _ _ _ P S l m F W _ (hPh.out.below (Below.via' B0 hH)) (hSh.out.below (Below.via' B0 hH)) ⟨hFh.out.below (Below.via' B0 hH), hWh.out.below (Below.via' B0 hH)⟩).mono ?_
    rintro e w1 ⟨rfl, hb1⟩
    rw [htg]
    refine hK.out _ _ (Below.via' hH hb1) (fun h1 => ?_)
    clear hK K
    (try simp only [Act.put, List.getElem_toArray, List.getElem_cons_succ, List.getElem_cons_zero, List.setIfInBounds_toArray, List.set_cons_zero, List.set_cons_succ])
    refine wpAnyH_take (i := 4) (v := ?_) rfl (by kernel_rfl) (by kernel_rfl) (by kernel_rfl) (fun _ _ _ h => h) (Or.inl ⟨by rfl, ?_⟩) (by assumption) ?_; rotate_left; · (intro wz hz; (skip); clear hz; go_simp; try with_reducible rfl); (try simp only [Act.put, List.getElem_toArray, List.getElem_cons_succ, List.getElem_cons_zero, List.setIfInBounds_toArray, List.set_cons_zero, List.set_cons_succ])
    refine wpAnyH_take (i := 5) (v := ?_) rfl (by kernel_rfl) (by kernel_rfl) (by kernel_rfl) (fun _ _ _ h => h) (Or.inl ⟨by rfl, ?_⟩) (by assumption) ?_; rotate_left; · (intro wz hz; (skip); clear hz; go_simp; try with_reducible rfl); (try simp only [Act.put, List.getElem_toArray, List.getElem_cons_succ, List.getElem_cons_zero, List.setIfInBounds_toArray, List.set_cons_zero, List.set_cons_succ])
    refine wpAnyH_take (i := 6) (v := ?_) rfl (by kernel_rfl) (by kernel_rfl) (by kernel_rfl) (fun _ _ _ h => h) (Or.inl ⟨by rfl, ?_⟩) (by assumption) ?_; rotate_left; · (intro wz hz; (skip); clear hz; go_simp; try with_reducible rfl); (try simp only [Act.put, List.getElem_toArray, List.getElem_cons_succ, List.getElem_cons_zero, List.setIfInBounds_toArray, List.set_cons_zero, List.set_cons_succ])
    refine wpAnyH_take (i := 7) (v := ?_) rfl (by kernel_rfl) (by kernel_rfl) (by kernel_rfl) (fun _ _ _ h => h) (Or.inl ⟨by rfl, ?_⟩) (by assumption) ?_; rotate_left; · (intro wz hz; (have f0 := (hz.cell (p := ⟨w.heap.size, 0, none⟩) hkz).trans ka; have f1 := (hz.cell (p := ⟨w.heap.size + 1, 0, none⟩) htz).trans ta; have f2 := (hz.cell (p := ⟨w.heap.size + 1, 1, none⟩) htz).trans tb; have f3 := (hz.cell (p := ⟨w.heap.size + 1, 2, none⟩) htz).trans tc; have f4 := (hz.cell (p := ⟨w.heap.size + 1, 3, none⟩) htz).trans td; have f5 := (hz.cell (p := ⟨w.heap.size + 1 + 1, 0, none⟩) hrz).trans ra; have f6 := (hz.cell (p := ⟨w.heap.size + 1 + 1, 1, none⟩) hrz).trans rb; have f7 := (hz.cell (p := ⟨w.heap.size + 1 + 1, 2, none⟩) hrz).trans rc); clear hz; go_simp; try with_reducible rfl); (try simp only [Act.put, List.getElem_toArray, List.getElem_cons_succ, List.getElem_cons_zero, List.setIfInBounds_toArray, List.set_cons_zero, List.set_cons_succ])
    refine wpAnyH_ready (rs := [8]) (by kernel_rfl) (by simp) (AllReadyH.cons rfl (fun K hK => ?_) AllReadyH.nil); go_simp
    refine (rGood_any _ _ _ _ S a h V _ hsh.out hm' (hSh.out.rd.below (Below.via' B0 h1)) (hVh.out.below (Below.via' B0 h1))).mono ?_
    rintro e w2 ⟨rfl, hb2⟩
    rw [hrk]
    refine hK.out _ _ (Below.via' h1 hb2) (fun h2 => ?_)
    clear hK K
    (try simp only [Act.put, List.getElem_toArray, List.getElem_cons_succ, List.getElem_cons_zero, List.setIfInBounds_toArray, List.set_cons_zero, List.set_cons_succ])
    refine wpAnyH_take (i := 9) (v := ?_) rfl (by kernel_rfl) (by kernel_rfl) (by kernel_rfl) (fun _ _ _ h => h) (Or.inl ⟨by rfl, ?_⟩) (by assumption) ?_; rotate_left; · (intro wz hz; (skip); clear hz; go_simp; try with_reducible rfl); (try simp only [Act.put, List.getElem_toArray, List.getElem_cons_succ, List.getElem_cons_zero, List.setIfInBounds_toArray, List.set_cons_zero, List.set_cons_succ])
    refine wpAnyH_take (i := 10) (v := ?_) rfl (by kernel_rfl) (by kernel_rfl) (by kernel_rfl) (fun _ _ _ h => h) (Or.inl ⟨by rfl, ?_⟩) (by assumption) ?_; rotate_left; · (intro wz hz; (skip); clear hz; go_simp; try with_reducible rfl); (try simp only [Act.put, List.getElem_toArray, List.getElem_cons_succ, List.getElem_cons_zero, List.setIfInBounds_toArray, List.set_cons_zero, List.set_cons_succ])
    refine wpAnyH_take (i := 11) (v := ?_) rfl (by kernel_rfl) (by kernel_rfl) (by kernel_rfl) (fun _ _ _ h => h) (Or.inl ⟨by rfl, ?_⟩) (by assumption) ?_; rotate_left; · (intro wz hz; (skip); clear hz; go_simp; try with_reducible rfl); (try simp only [Act.put, List.getElem_toArray, List.getElem_cons_succ, List.getElem_cons_zero, List.setIfInBounds_toArray, List.set_cons_zero, List.set_cons_succ])
    refine wpAnyH_take (i := 12) (v := undef) rfl (by kernel_rfl) (by kernel_rfl) (by kernel_rfl) (fun _ _ _ h => h) (Or.inr ⟨by rfl, rfl⟩) (by assumption) ?_; (try simp only [Act.put, List.getElem_toArray, List.getElem_cons_succ, List.getElem_cons_zero, List.setIfInBounds_toArray, List.set_cons_zero, List.set_cons_succ])
    refine wpAnyH_take (i := 13) (v := undef) rfl (by kernel_rfl) (by kernel_rfl) (by kernel_rfl) (fun _ _ _ h => h) (Or.inr ⟨by rfl, rfl⟩) (by assumption) ?_; (try simp only [Act.put, List.getElem_toArray, List.getElem_cons_succ, List.getElem_cons_zero, List.setIfInBounds_toArray, List.set_cons_zero, List.set_cons_succ])
    refine wpAnyH_take (i := 14) (v := undef) rfl (by kernel_rfl) (by kernel_rfl) (by kernel_rfl) (fun _ _ _ h => h) (Or.inr ⟨by rfl, rfl⟩) (by assumption) ?_; (try simp only [Act.put, List.getElem_toArray, List.getElem_cons_succ, List.getElem_cons_zero, List.setIfInBounds_toArray, List.set_cons_zero, List.set_cons_succ])
    refine wpAnyH_take (i := 15) (v := undef) rfl (by kernel_rfl) (by kernel_rfl) (by kernel_rfl) (fun _ _ _ h => h) (Or.inr ⟨by rfl, rfl⟩) (by assumption) ?_; (try simp only [Act.put, List.getElem_toArray, List.getElem_cons_succ, List.getElem_cons_zero, List.setIfInBounds_toArray, List.set_cons_zero, List.set_cons_succ])
    refine wpAnyH_take (i := 16) (v := undef) rfl (by kernel_rfl) (by kernel_rfl) (by kernel_rfl) (fun _ _ _ h => h) (Or.inr ⟨by rfl, rfl⟩) (by assumption) ?_; (try simp only [Act.put, List.getElem_toArray, List.getElem_cons_succ, List.getElem_cons_zero, List.setIfInBounds_toArray, List.set_cons_zero, List.set_cons_succ])
    refine wpAnyH_take (i := 17) (v := undef) rfl (by kernel_rfl) (by kernel_rfl) (by kernel_rfl) (fun _ _ _ h => h) (Or.inr ⟨by rfl, rfl⟩) (by assumption) ?_; (try simp only [Act.put, List.getElem_toArray, List.getElem_cons_succ, List.getElem_cons_zero, List.setIfInBounds_toArray, List.set_cons_zero, List.set_cons_succ])
    refine wpAnyH_take (i := 18) (v := ?_) rfl (by kernel_rfl) (by kernel_rfl) (by kernel_rfl) (fun _ _ _ h => h) (Or.inl ⟨by rfl, ?_⟩) (by assumption) ?_; rotate_left; · (intro wz hz; (skip); clear hz; go_simp; try with_reducible rfl); (try simp only [Act.put, List.getElem_toArray, List.getElem_cons_succ, List.getElem_cons_zero, List.setIfInBounds_toArray, List.set_cons_zero, List.set_cons_succ])
    refine wpAnyH_done (by kernel_rfl) ?_ _
    go_wp2
    go_ret3
    exact ⟨ret_iib hv.out.1.symm hv.out.2.1.symm hv.out.2.2.symm, Below.via' B0 h2⟩
  · have hv := Lib.hid (coy_no (coy_no2 (P := P) (S := S) (l := l) (F := F) (W := W) (m := m) (a := a) (h := h) (V := V) (by rw [hlf, Bool.and_false])))
    have hth := Lib.hid (tg_iff.1 htg)
    have hsh := Lib.hid hth.out.s
    have hgh := Lib.hid hth.out.g
    have hl30 := (ge_len hth.out.g).2
    have hm' : S.length ≤ 1048576 := by have := (schB_len hsh.out).2; omega
    refine wp_region_held_drew (S := fun X => Below w0.heap.size w0 X) (by kernel_rfl) (Below.drew (Below.refl _ _)) (fun hH => ?_)
    refine wpAnyH_take (i := 0) (v := ?_) rfl (by kernel_rfl) (by kernel_rfl) (by kernel_rfl) (fun _ _ _ h => h) (Or.inl ⟨by rfl, ?_⟩) (by assumption) ?_; rotate_left; · (intro wz hz; (have f0 := (hz.cell (p := ⟨w.heap.size, 0, none⟩) hkz).trans ka; have f1 := (hz.cell (p := ⟨w.heap.size + 1, 0, none⟩) htz).trans ta; have f2 := (hz.cell (p := ⟨w.heap.size + 1, 1, none⟩) htz).trans tb; have f3 := (hz.cell (p := ⟨w.heap.size + 1, 2, none⟩) htz).trans tc; have f4 := (hz.cell (p := ⟨w.heap.size + 1, 3, none⟩) htz).trans td; have f5 := (hz.cell (p := ⟨w.heap.size + 1 + 1, 0, none⟩) hrz).trans ra; have f6 := (hz.cell (p := ⟨w.heap.size + 1 + 1, 1, none⟩) hrz).trans rb; have f7 := (hz.cell (p := ⟨w.heap.size + 1 + 1, 2, none⟩) hrz).trans rc); clear hz; go_simp; try with_reducible rfl); (try simp only [Act.put, List.getElem_toArray, List.getElem_cons_succ, List.getElem_cons_zero, List.setIfInBounds_toArray, List.set_cons_zero, List.set_cons_succ])
    refine wpAnyH_take (i := 1) (v := ?_) rfl (by kernel_rfl) (by kernel_rfl) (by kernel_rfl) (fun _ _ _ h => h) (Or.inl ⟨by rfl, ?_⟩) (by assumption) ?_; rotate_left; · (intro wz hz; (skip); clear hz; go_simp; try with_reducible rfl); (try simp only [Act.put, List.getElem_toArray, List.getElem_cons_succ, List.getElem_cons_zero, List.setIfInBounds_toArray, List.set_cons_zero, List.set_cons_succ])
    refine wpAnyH_take (i := 2) (v := ?_) rfl (by kernel_rfl) (by kernel_rfl) (by kernel_rfl) (fun _ _ _ h => h) (Or.inl ⟨by rfl, ?_⟩) (by assumption) ?_; rotate_left; · (intro wz hz; (have f0 := (hz.cell (p := ⟨w.heap.size, 0, none⟩) hkz).trans ka; have f1 := (hz.cell (p := ⟨w.heap.size + 1, 0, none⟩) htz).trans ta; have f2 := (hz.cell (p := ⟨w.heap.size + 1, 1, none⟩) htz).trans tb; have f3 := (hz.cell (p := ⟨w.heap.size + 1, 2, none⟩) htz).trans tc; have f4 := (hz.cell (p := ⟨w.heap.size + 1, 3, none⟩) htz).trans td; have f5 := (hz.cell (p := ⟨w.heap.size + 1 + 1, 0, none⟩) hrz).trans ra; have f6 := (hz.cell (p := ⟨w.heap.size + 1 + 1, 1, none⟩) hrz).trans rb; have f7 := (hz.cell (p := ⟨w.heap.size + 1 + 1, 2, none⟩) hrz).trans rc); clear hz; go_simp; try with_reducible rfl); (try simp only [Act.put, List.getElem_toArray, List.getElem_cons_succ, List.getElem_cons_zero, List.setIfInBounds_toArray, List.set_cons_zero, List.set_cons_succ])
    refine wpAnyH_ready (rs := [3]) (by kernel_rfl) (by simp) (AllReadyH.cons rfl (fun K hK => ?_) AllReadyH.nil); go_simp
    refine (uGood_any p y x z _ _ _ _ P S l m F W _ (hPh.out.below (Below.via' B0 hH)) (hSh.out.below (Below.via' B0 hH)) ⟨hFh.out.below (Below.via' B0 hH), hWh.out.below (Below.via' B0 hH)⟩).mono ?_
    rintro e w1 ⟨rfl, hb1⟩
    rw [htg]
    refine hK.out _ _ (Below.via' hH hb1) (fun h1 => ?_)
    clear hK K
    (try simp only [Act.put, List.getElem_toArray, List.getElem_cons_succ, List.getElem_cons_zero, List.setIfInBounds_toArray, List.set_cons_zero, List.set_cons_succ])
    refine wpAnyH_take (i := 4) (v := ?_) rfl (by kernel_rfl) (by kernel_rfl) (by kernel_rfl) (fun _ _ _ h => h) (Or.inl ⟨by rfl, ?_⟩) (by assumption) ?_; rotate_left; · (intro wz hz; (skip); clear hz; go_simp; try with_reducible rfl); (try simp only [Act.put, List.getElem_toArray, List.getElem_cons_succ, List.getElem_cons_zero, List.setIfInBounds_toArray, List.set_cons_zero, List.set_cons_succ])
    refine wpAnyH_take (i := 5) (v := ?_) rfl (by kernel_rfl) (by kernel_rfl) (by kernel_rfl) (fun _ _ _ h => h) (Or.inl ⟨by rfl, ?_⟩) (by assumption) ?_; rotate_left; · (intro wz hz; (skip); clear hz; go_simp; try with_reducible rfl); (try simp only [Act.put, List.getElem_toArray, List.getElem_cons_succ, List.getElem_cons_zero, List.setIfInBounds_toArray, List.set_cons_zero, List.set_cons_succ])
    refine wpAnyH_take (i := 6) (v := ?_) rfl (by kernel_rfl) (by kernel_rfl) (by kernel_rfl) (fun _ _ _ h => h) (Or.inl ⟨by rfl, ?_⟩) (by assumption) ?_; rotate_left; · (intro wz hz; (skip); clear hz; go_simp; try with_reducible rfl); (try simp only [Act.put, List.getElem_toArray, List.getElem_cons_succ, List.getElem_cons_zero, List.setIfInBounds_toArray, List.set_cons_zero, List.set_cons_succ])
    refine wpAnyH_take (i := 7) (v := ?_) rfl (by kernel_rfl) (by kernel_rfl) (by kernel_rfl) (fun _ _ _ h => h) (Or.inl ⟨by rfl, ?_⟩) (by assumption) ?_; rotate_left; · (intro wz hz; (have f0 := (hz.cell (p := ⟨w.heap.size, 0, none⟩) hkz).trans ka; have f1 := (hz.cell (p := ⟨w.heap.size + 1, 0, none⟩) htz).trans ta; have f2 := (hz.cell (p := ⟨w.heap.size + 1, 1, none⟩) htz).trans tb; have f3 := (hz.cell (p := ⟨w.heap.size + 1, 2, none⟩) htz).trans tc; have f4 := (hz.cell (p := ⟨w.heap.size + 1, 3, none⟩) htz).trans td; have f5 := (hz.cell (p := ⟨w.heap.size + 1 + 1, 0, none⟩) hrz).trans ra; have f6 := (hz.cell (p := ⟨w.heap.size + 1 + 1, 1, none⟩) hrz).trans rb; have f7 := (hz.cell (p := ⟨w.heap.size + 1 + 1, 2, none⟩) hrz).trans rc); clear hz; go_simp; try with_reducible rfl); (try simp only [Act.put, List.getElem_toArray, List.getElem_cons_succ, List.getElem_cons_zero, List.setIfInBounds_toArray, List.set_cons_zero, List.set_cons_succ])
    refine wpAnyH_ready (rs := [8]) (by kernel_rfl) (by simp) (AllReadyH.cons rfl (fun K hK => ?_) AllReadyH.nil); go_simp
    refine (rGood_any _ _ _ _ S a h V _ hsh.out hm' (hSh.out.rd.below (Below.via' B0 h1)) (hVh.out.below (Below.via' B0 h1))).mono ?_
    rintro e w2 ⟨rfl, hb2⟩
    rw [hrk]
    refine hK.out _ _ (Below.via' h1 hb2) (fun h2 => ?_)
    clear hK K
    (try simp only [Act.put, List.getElem_toArray, List.getElem_cons_succ, List.getElem_cons_zero, List.setIfInBounds_toArray, List.set_cons_zero, List.set_cons_succ])
    refine wpAnyH_take (i := 9) (v := ?_) rfl (by kernel_rfl) (by kernel_rfl) (by kernel_rfl) (fun _ _ _ h => h) (Or.inl ⟨by rfl, ?_⟩) (by assumption) ?_; rotate_left; · (intro wz hz; (skip); clear hz; go_simp; try with_reducible rfl); (try simp only [Act.put, List.getElem_toArray, List.getElem_cons_succ, List.getElem_cons_zero, List.setIfInBounds_toArray, List.set_cons_zero, List.set_cons_succ])
    refine wpAnyH_take (i := 10) (v := ?_) rfl (by kernel_rfl) (by kernel_rfl) (by kernel_rfl) (fun _ _ _ h => h) (Or.inl ⟨by rfl, ?_⟩) (by assumption) ?_; rotate_left; · (intro wz hz; (skip); clear hz; go_simp; try with_reducible rfl); (try simp only [Act.put, List.getElem_toArray, List.getElem_cons_succ, List.getElem_cons_zero, List.setIfInBounds_toArray, List.set_cons_zero, List.set_cons_succ])
    refine wpAnyH_take (i := 11) (v := ?_) rfl (by kernel_rfl) (by kernel_rfl) (by kernel_rfl) (fun _ _ _ h => h) (Or.inl ⟨by rfl, ?_⟩) (by assumption) ?_; rotate_left; · (intro wz hz; (skip); clear hz; go_simp; try with_reducible rfl); (try simp only [Act.put, List.getElem_toArray, List.getElem_cons_succ, List.getElem_cons_zero, List.setIfInBounds_toArray, List.set_cons_zero, List.set_cons_succ])
    refine wpAnyH_take (i := 12) (v := ?_) rfl (by kernel_rfl) (by kernel_rfl) (by kernel_rfl) (fun _ _ _ h => h) (Or.inl ⟨by rfl, ?_⟩) (by assumption) ?_; rotate_left; · (intro wz hz; (have f0 := (hz.cell (p := ⟨w.heap.size, 0, none⟩) hkz).trans ka; have f1 := (hz.cell (p := ⟨w.heap.size + 1, 0, none⟩) htz).trans ta; have f2 := (hz.cell (p := ⟨w.heap.size + 1, 1, none⟩) htz).trans tb; have f3 := (hz.cell (p := ⟨w.heap.size + 1, 2, none⟩) htz).trans tc; have f4 := (hz.cell (p := ⟨w.heap.size + 1, 3, none⟩) htz).trans td; have f5 := (hz.cell (p := ⟨w.heap.size + 1 + 1, 0, none⟩) hrz).trans ra; have f6 := (hz.cell (p := ⟨w.heap.size + 1 + 1, 1, none⟩) hrz).trans rb; have f7 := (hz.cell (p := ⟨w.heap.size + 1 + 1, 2, none⟩) hrz).trans rc); clear hz; go_simp; try with_reducible rfl); (try simp only [Act.put, List.getElem_toArray, List.getElem_cons_succ, List.getElem_cons_zero, List.setIfInBounds_toArray, List.set_cons_zero, List.set_cons_succ])
    refine wpAnyH_take (i := 14) (v := ?_) rfl (by kernel_rfl) (by kernel_rfl) (by kernel_rfl) (fun _ _ _ h => h) (Or.inl ⟨by rfl, ?_⟩) (by assumption) ?_; rotate_left; · (intro wz hz; (skip); clear hz; go_simp; try with_reducible rfl); (try simp only [Act.put, List.getElem_toArray, List.getElem_cons_succ, List.getElem_cons_zero, List.setIfInBounds_toArray, List.set_cons_zero, List.set_cons_succ])
    refine wpAnyH_take (i := 15) (v := ?_) rfl (by kernel_rfl) (by kernel_rfl) (by kernel_rfl) (fun _ _ _ h => h) (Or.inl ⟨by rfl, ?_⟩) (by assumption) ?_; rotate_left; · (intro wz hz; (have f0 := (hz.cell (p := ⟨w.heap.size, 0, none⟩) hkz).trans ka; have f1 := (hz.cell (p := ⟨w.heap.size + 1, 0, none⟩) htz).trans ta; have f2 := (hz.cell (p := ⟨w.heap.size + 1, 1, none⟩) htz).trans tb; have f3 := (hz.cell (p := ⟨w.heap.size + 1, 2, none⟩) htz).trans tc; have f4 := (hz.cell (p := ⟨w.heap.size + 1, 3, none⟩) htz).trans td; have f5 := (hz.cell (p := ⟨w.heap.size + 1 + 1, 0, none⟩) hrz).trans ra; have f6 := (hz.cell (p := ⟨w.heap.size + 1 + 1, 1, none⟩) hrz).trans rb; have f7 := (hz.cell (p := ⟨w.heap.size + 1 + 1, 2, none⟩) hrz).trans rc); clear hz; go_simp; try with_reducible rfl); (try simp only [Act.put, List.getElem_toArray, List.getElem_cons_succ, List.getElem_cons_zero, List.setIfInBounds_toArray, List.set_cons_zero, List.set_cons_succ])
    refine wpAnyH_ready (rs := [13]) (by kernel_rfl) (by simp) (AllReadyH.cons rfl (fun K hK => ?_) AllReadyH.nil); go_simp
    refine (gLeaves_any _ _ P _ hgh.out (hPh.out.below (Below.via' B0 h2))).mono ?_
    rintro e w3 ⟨v3, rfl, ho3, hb3⟩
    obtain ⟨x3, n3, rfl, -, -⟩ := (OwR.of ho3).form
    have hi3 : Hid (IIn w3 x3 (lfL P)) := iin_sel (by omega) (Rd.of_own ho3)
    clear ho3
    refine hK.out _ _ (Below.via' h2 hb3) (fun h3 => ?_)
    clear hK K
    (try simp only [Act.put, List.getElem_toArray, List.getElem_cons_succ, List.getElem_cons_zero, List.setIfInBounds_toArray, List.set_cons_zero, List.set_cons_succ])
    refine wpAnyH_ready (rs := [16]) (by kernel_rfl) (by simp) (AllReadyH.cons rfl (fun K hK => ?_) AllReadyH.nil); go_simp
    refine (l1Has_any _ _ (lfL P) a _ hi3.out).mono ?_
    rintro e w4 ⟨rfl, rfl⟩
    rw [hlf]
    refine hK.out _ _ h3 (fun h4 => ?_)
    clear hK K
    (try simp only [Act.put, List.getElem_toArray, List.getElem_cons_succ, List.getElem_cons_zero, List.setIfInBounds_toArray, List.set_cons_zero, List.set_cons_succ])
    refine wpAnyH_take (i := 17) (v := ?_) rfl (by kernel_rfl) (by kernel_rfl) (by kernel_rfl) (fun _ _ _ h => h) (Or.inl ⟨by rfl, ?_⟩) (by assumption) ?_; rotate_left; · (intro wz hz; (skip); clear hz; go_simp; try with_reducible rfl); (try simp only [Act.put, List.getElem_toArray, List.getElem_cons_succ, List.getElem_cons_zero, List.setIfInBounds_toArray, List.set_cons_zero, List.set_cons_succ])
    refine wpAnyH_take (i := 18) (v := ?_) rfl (by kernel_rfl) (by kernel_rfl) (by kernel_rfl) (fun _ _ _ h => h) (Or.inl ⟨by rfl, ?_⟩) (by assumption) ?_; rotate_left; · (intro wz hz; (skip); clear hz; go_simp; try with_reducible rfl); (try simp only [Act.put, List.getElem_toArray, List.getElem_cons_succ, List.getElem_cons_zero, List.setIfInBounds_toArray, List.set_cons_zero, List.set_cons_succ])
    refine wpAnyH_done (by kernel_rfl) ?_ _
    go_wp2
    go_ret3
    exact ⟨ret_iib hv.out.1.symm hv.out.2.1.symm hv.out.2.2.symm, Below.via' B0 h4⟩
  · have hsv : (rokB S (a, h, V) && (lfL P).contains a) = true := by rw [hrk, hlf]; rfl
    have hth := Lib.hid (tg_iff.1 htg)
    have hsh := Lib.hid hth.out.s
    have hgh := Lib.hid hth.out.g
    have hl30 := (ge_len hth.out.g).2
    have hm' : S.length ≤ 1048576 := by have := (schB_len hsh.out).2; omega
    have hv := Lib.hid (coy_yes hth.out hsv)
    have hcle := Lib.hid (coy_cl hsv)
    replace hsv := Lib.hid hsv
    refine wp_region_held_drew (S := fun X => Below w0.heap.size w0 X) (by kernel_rfl) (Below.drew (Below.refl _ _)) (fun hH => ?_)
    refine wpAnyH_take (i := 0) (v := ?_) rfl (by kernel_rfl) (by kernel_rfl) (by kernel_rfl) (fun _ _ _ h => h) (Or.inl ⟨by rfl, ?_⟩) (by assumption) ?_; rotate_left; · (intro wz hz; (have f0 := (hz.cell (p := ⟨w.heap.size, 0, none⟩) hkz).trans ka; have f1 := (hz.cell (p := ⟨w.heap.size + 1, 0, none⟩) htz).trans ta; have f2 := (hz.cell (p := ⟨w.heap.size + 1, 1, none⟩) htz).trans tb; have f3 := (hz.cell (p := ⟨w.heap.size + 1, 2, none⟩) htz).trans tc; have f4 := (hz.cell (p := ⟨w.heap.size + 1, 3, none⟩) htz).trans td; have f5 := (hz.cell (p := ⟨w.heap.size + 1 + 1, 0, none⟩) hrz).trans ra; have f6 := (hz.cell (p := ⟨w.heap.size + 1 + 1, 1, none⟩) hrz).trans rb; have f7 := (hz.cell (p := ⟨w.heap.size + 1 + 1, 2, none⟩) hrz).trans rc); clear hz; go_simp; try with_reducible rfl); (try simp only [Act.put, List.getElem_toArray, List.getElem_cons_succ, List.getElem_cons_zero, List.setIfInBounds_toArray, List.set_cons_zero, List.set_cons_succ])
    refine wpAnyH_take (i := 1) (v := ?_) rfl (by kernel_rfl) (by kernel_rfl) (by kernel_rfl) (fun _ _ _ h => h) (Or.inl ⟨by rfl, ?_⟩) (by assumption) ?_; rotate_left; · (intro wz hz; (skip); clear hz; go_simp; try with_reducible rfl); (try simp only [Act.put, List.getElem_toArray, List.getElem_cons_succ, List.getElem_cons_zero, List.setIfInBounds_toArray, List.set_cons_zero, List.set_cons_succ])
    refine wpAnyH_take (i := 2) (v := ?_) rfl (by kernel_rfl) (by kernel_rfl) (by kernel_rfl) (fun _ _ _ h => h) (Or.inl ⟨by rfl, ?_⟩) (by assumption) ?_; rotate_left; · (intro wz hz; (have f0 := (hz.cell (p := ⟨w.heap.size, 0, none⟩) hkz).trans ka; have f1 := (hz.cell (p := ⟨w.heap.size + 1, 0, none⟩) htz).trans ta; have f2 := (hz.cell (p := ⟨w.heap.size + 1, 1, none⟩) htz).trans tb; have f3 := (hz.cell (p := ⟨w.heap.size + 1, 2, none⟩) htz).trans tc; have f4 := (hz.cell (p := ⟨w.heap.size + 1, 3, none⟩) htz).trans td; have f5 := (hz.cell (p := ⟨w.heap.size + 1 + 1, 0, none⟩) hrz).trans ra; have f6 := (hz.cell (p := ⟨w.heap.size + 1 + 1, 1, none⟩) hrz).trans rb; have f7 := (hz.cell (p := ⟨w.heap.size + 1 + 1, 2, none⟩) hrz).trans rc); clear hz; go_simp; try with_reducible rfl); (try simp only [Act.put, List.getElem_toArray, List.getElem_cons_succ, List.getElem_cons_zero, List.setIfInBounds_toArray, List.set_cons_zero, List.set_cons_succ])
    refine wpAnyH_ready (rs := [3]) (by kernel_rfl) (by simp) (AllReadyH.cons rfl (fun K hK => ?_) AllReadyH.nil); go_simp
    refine (uGood_any p y x z _ _ _ _ P S l m F W _ (hPh.out.below (Below.via' B0 hH)) (hSh.out.below (Below.via' B0 hH)) ⟨hFh.out.below (Below.via' B0 hH), hWh.out.below (Below.via' B0 hH)⟩).mono ?_
    rintro e w1 ⟨rfl, hb1⟩
    rw [htg]
    refine hK.out _ _ (Below.via' hH hb1) (fun h1 => ?_)
    clear hK K
    (try simp only [Act.put, List.getElem_toArray, List.getElem_cons_succ, List.getElem_cons_zero, List.setIfInBounds_toArray, List.set_cons_zero, List.set_cons_succ])
    refine wpAnyH_take (i := 4) (v := ?_) rfl (by kernel_rfl) (by kernel_rfl) (by kernel_rfl) (fun _ _ _ h => h) (Or.inl ⟨by rfl, ?_⟩) (by assumption) ?_; rotate_left; · (intro wz hz; (skip); clear hz; go_simp; try with_reducible rfl); (try simp only [Act.put, List.getElem_toArray, List.getElem_cons_succ, List.getElem_cons_zero, List.setIfInBounds_toArray, List.set_cons_zero, List.set_cons_succ])
    refine wpAnyH_take (i := 5) (v := ?_) rfl (by kernel_rfl) (by kernel_rfl) (by kernel_rfl) (fun _ _ _ h => h) (Or.inl ⟨by rfl, ?_⟩) (by assumption) ?_; rotate_left; · (intro wz hz; (skip); clear hz; go_simp; try with_reducible rfl); (try simp only [Act.put, List.getElem_toArray, List.getElem_cons_succ, List.getElem_cons_zero, List.setIfInBounds_toArray, List.set_cons_zero, List.set_cons_succ])
    refine wpAnyH_take (i := 6) (v := ?_) rfl (by kernel_rfl) (by kernel_rfl) (by kernel_rfl) (fun _ _ _ h => h) (Or.inl ⟨by rfl, ?_⟩) (by assumption) ?_; rotate_left; · (intro wz hz; (skip); clear hz; go_simp; try with_reducible rfl); (try simp only [Act.put, List.getElem_toArray, List.getElem_cons_succ, List.getElem_cons_zero, List.setIfInBounds_toArray, List.set_cons_zero, List.set_cons_succ])
    refine wpAnyH_take (i := 7) (v := ?_) rfl (by kernel_rfl) (by kernel_rfl) (by kernel_rfl) (fun _ _ _ h => h) (Or.inl ⟨by rfl, ?_⟩) (by assumption) ?_; rotate_left; · (intro wz hz; (have f0 := (hz.cell (p := ⟨w.heap.size, 0, none⟩) hkz).trans ka; have f1 := (hz.cell (p := ⟨w.heap.size + 1, 0, none⟩) htz).trans ta; have f2 := (hz.cell (p := ⟨w.heap.size + 1, 1, none⟩) htz).trans tb; have f3 := (hz.cell (p := ⟨w.heap.size + 1, 2, none⟩) htz).trans tc; have f4 := (hz.cell (p := ⟨w.heap.size + 1, 3, none⟩) htz).trans td; have f5 := (hz.cell (p := ⟨w.heap.size + 1 + 1, 0, none⟩) hrz).trans ra; have f6 := (hz.cell (p := ⟨w.heap.size + 1 + 1, 1, none⟩) hrz).trans rb; have f7 := (hz.cell (p := ⟨w.heap.size + 1 + 1, 2, none⟩) hrz).trans rc); clear hz; go_simp; try with_reducible rfl); (try simp only [Act.put, List.getElem_toArray, List.getElem_cons_succ, List.getElem_cons_zero, List.setIfInBounds_toArray, List.set_cons_zero, List.set_cons_succ])
    refine wpAnyH_ready (rs := [8]) (by kernel_rfl) (by simp) (AllReadyH.cons rfl (fun K hK => ?_) AllReadyH.nil); go_simp
    refine (rGood_any _ _ _ _ S a h V _ hsh.out hm' (hSh.out.rd.below (Below.via' B0 h1)) (hVh.out.below (Below.via' B0 h1))).mono ?_
    rintro e w2 ⟨rfl, hb2⟩
    rw [hrk]
    refine hK.out _ _ (Below.via' h1 hb2) (fun h2 => ?_)
    clear hK K
    (try simp only [Act.put, List.getElem_toArray, List.getElem_cons_succ, List.getElem_cons_zero, List.setIfInBounds_toArray, List.set_cons_zero, List.set_cons_succ])
    refine wpAnyH_take (i := 9) (v := ?_) rfl (by kernel_rfl) (by kernel_rfl) (by kernel_rfl) (fun _ _ _ h => h) (Or.inl ⟨by rfl, ?_⟩) (by assumption) ?_; rotate_left; · (intro wz hz; (skip); clear hz; go_simp; try with_reducible rfl); (try simp only [Act.put, List.getElem_toArray, List.getElem_cons_succ, List.getElem_cons_zero, List.setIfInBounds_toArray, List.set_cons_zero, List.set_cons_succ])
    refine wpAnyH_take (i := 10) (v := ?_) rfl (by kernel_rfl) (by kernel_rfl) (by kernel_rfl) (fun _ _ _ h => h) (Or.inl ⟨by rfl, ?_⟩) (by assumption) ?_; rotate_left; · (intro wz hz; (skip); clear hz; go_simp; try with_reducible rfl); (try simp only [Act.put, List.getElem_toArray, List.getElem_cons_succ, List.getElem_cons_zero, List.setIfInBounds_toArray, List.set_cons_zero, List.set_cons_succ])
    refine wpAnyH_take (i := 11) (v := ?_) rfl (by kernel_rfl) (by kernel_rfl) (by kernel_rfl) (fun _ _ _ h => h) (Or.inl ⟨by rfl, ?_⟩) (by assumption) ?_; rotate_left; · (intro wz hz; (skip); clear hz; go_simp; try with_reducible rfl); (try simp only [Act.put, List.getElem_toArray, List.getElem_cons_succ, List.getElem_cons_zero, List.setIfInBounds_toArray, List.set_cons_zero, List.set_cons_succ])
    refine wpAnyH_take (i := 12) (v := ?_) rfl (by kernel_rfl) (by kernel_rfl) (by kernel_rfl) (fun _ _ _ h => h) (Or.inl ⟨by rfl, ?_⟩) (by assumption) ?_; rotate_left; · (intro wz hz; (have f0 := (hz.cell (p := ⟨w.heap.size, 0, none⟩) hkz).trans ka; have f1 := (hz.cell (p := ⟨w.heap.size + 1, 0, none⟩) htz).trans ta; have f2 := (hz.cell (p := ⟨w.heap.size + 1, 1, none⟩) htz).trans tb; have f3 := (hz.cell (p := ⟨w.heap.size + 1, 2, none⟩) htz).trans tc; have f4 := (hz.cell (p := ⟨w.heap.size + 1, 3, none⟩) htz).trans td; have f5 := (hz.cell (p := ⟨w.heap.size + 1 + 1, 0, none⟩) hrz).trans ra; have f6 := (hz.cell (p := ⟨w.heap.size + 1 + 1, 1, none⟩) hrz).trans rb; have f7 := (hz.cell (p := ⟨w.heap.size + 1 + 1, 2, none⟩) hrz).trans rc); clear hz; go_simp; try with_reducible rfl); (try simp only [Act.put, List.getElem_toArray, List.getElem_cons_succ, List.getElem_cons_zero, List.setIfInBounds_toArray, List.set_cons_zero, List.set_cons_succ])
    refine wpAnyH_take (i := 14) (v := ?_) rfl (by kernel_rfl) (by kernel_rfl) (by kernel_rfl) (fun _ _ _ h => h) (Or.inl ⟨by rfl, ?_⟩) (by assumption) ?_; rotate_left; · (intro wz hz; (skip); clear hz; go_simp; try with_reducible rfl); (try simp only [Act.put, List.getElem_toArray, List.getElem_cons_succ, List.getElem_cons_zero, List.setIfInBounds_toArray, List.set_cons_zero, List.set_cons_succ])
    refine wpAnyH_take (i := 15) (v := ?_) rfl (by kernel_rfl) (by kernel_rfl) (by kernel_rfl) (fun _ _ _ h => h) (Or.inl ⟨by rfl, ?_⟩) (by assumption) ?_; rotate_left; · (intro wz hz; (have f0 := (hz.cell (p := ⟨w.heap.size, 0, none⟩) hkz).trans ka; have f1 := (hz.cell (p := ⟨w.heap.size + 1, 0, none⟩) htz).trans ta; have f2 := (hz.cell (p := ⟨w.heap.size + 1, 1, none⟩) htz).trans tb; have f3 := (hz.cell (p := ⟨w.heap.size + 1, 2, none⟩) htz).trans tc; have f4 := (hz.cell (p := ⟨w.heap.size + 1, 3, none⟩) htz).trans td; have f5 := (hz.cell (p := ⟨w.heap.size + 1 + 1, 0, none⟩) hrz).trans ra; have f6 := (hz.cell (p := ⟨w.heap.size + 1 + 1, 1, none⟩) hrz).trans rb; have f7 := (hz.cell (p := ⟨w.heap.size + 1 + 1, 2, none⟩) hrz).trans rc); clear hz; go_simp; try with_reducible rfl); (try simp only [Act.put, List.getElem_toArray, List.getElem_cons_succ, List.getElem_cons_zero, List.setIfInBounds_toArray, List.set_cons_zero, List.set_cons_succ])
    refine wpAnyH_ready (rs := [13]) (by kernel_rfl) (by simp) (AllReadyH.cons rfl (fun K hK => ?_) AllReadyH.nil); go_simp
    refine (gLeaves_any _ _ P _ hgh.out (hPh.out.below (Below.via' B0 h2))).mono ?_
    rintro e w3 ⟨v3, rfl, ho3, hb3⟩
    obtain ⟨x3, n3, rfl, -, -⟩ := (OwR.of ho3).form
    have hi3 : Hid (IIn w3 x3 (lfL P)) := iin_sel (by omega) (Rd.of_own ho3)
    clear ho3
    refine hK.out _ _ (Below.via' h2 hb3) (fun h3 => ?_)
    clear hK K
    (try simp only [Act.put, List.getElem_toArray, List.getElem_cons_succ, List.getElem_cons_zero, List.setIfInBounds_toArray, List.set_cons_zero, List.set_cons_succ])
    refine wpAnyH_ready (rs := [16]) (by kernel_rfl) (by simp) (AllReadyH.cons rfl (fun K hK => ?_) AllReadyH.nil); go_simp
    refine (l1Has_any _ _ (lfL P) a _ hi3.out).mono ?_
    rintro e w4 ⟨rfl, rfl⟩
    rw [hlf]
    refine hK.out _ _ h3 (fun h4 => ?_)
    clear hK K
    (try simp only [Act.put, List.getElem_toArray, List.getElem_cons_succ, List.getElem_cons_zero, List.setIfInBounds_toArray, List.set_cons_zero, List.set_cons_succ])
    refine wpAnyH_take (i := 17) (v := ?_) rfl (by kernel_rfl) (by kernel_rfl) (by kernel_rfl) (fun _ _ _ h => h) (Or.inl ⟨by rfl, ?_⟩) (by assumption) ?_; rotate_left; · (intro wz hz; (skip); clear hz; go_simp; try with_reducible rfl); (try simp only [Act.put, List.getElem_toArray, List.getElem_cons_succ, List.getElem_cons_zero, List.setIfInBounds_toArray, List.set_cons_zero, List.set_cons_succ])
    refine wpAnyH_take (i := 18) (v := ?_) rfl (by kernel_rfl) (by kernel_rfl) (by kernel_rfl) (fun _ _ _ h => h) (Or.inl ⟨by rfl, ?_⟩) (by assumption) ?_; rotate_left; · (intro wz hz; (skip); clear hz; go_simp; try with_reducible rfl); (try simp only [Act.put, List.getElem_toArray, List.getElem_cons_succ, List.getElem_cons_zero, List.setIfInBounds_toArray, List.set_cons_zero, List.set_cons_succ])
    refine wpAnyH_done (by kernel_rfl) ?_ _
    have B9 : Below w.heap.size w w3 := Below.via' B0 h4
    obtain ⟨ka9, kb9, kc9⟩ := g0.out.below h4
    obtain ⟨ta9, tb9, tc9, td9, te9⟩ := t0.out.below h4
    obtain ⟨ra9, rb9, rc9, rd9⟩ := r0.out.below h4
    clear ka kb kc ta tb tc td te ra rb rc rd hkz htz hrz
    obtain ⟨k, rfl, hcl⟩ := hcle.out
    go_wp2_with fail
    refine (uCell_any p y x z v _ _ _ _ _ P S l F W m k h V _ hth.out hcl (hPh.out.below B9) (hSh.out.below B9) ⟨hFh.out.below B9, hWh.out.below B9⟩ (hVh.out.below B9)).mono ?_
    rintro e w5 ⟨rfl, hb5⟩
    go_wp2
    go_ret3
    exact ⟨ret_iib hv.out.1.symm hv.out.2.1.symm hv.out.2.2.symm, Below.via' B9 hb5⟩
end Go.Proofs.Ytgkaalonmkcclaa
