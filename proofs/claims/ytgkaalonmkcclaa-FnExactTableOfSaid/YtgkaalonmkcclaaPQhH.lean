import Derived.Test.YtgkaalonmkcclaaPQhG
import Derived.Test.YtgkaalonmkcclaaSchM
namespace Go.Proofs.Ytgkaalonmkcclaa
open Go.RowKit
set_option maxRecDepth 100000

set_option maxHeartbeats 2000000 in
theorem iAA_x (x : Option Addr) (c : Nat) (P : List Int) (i l : Int) (w : World) (h : IIn w x P) :
    Calls Try.prog 122 #[.agg #[.slice x P.length c], .int .i64 i, .int .i64 l] w fun e w' => e = .returned (.tuple #[.int .i64 (aaZ P i l), .bool (aaB P i l)]) ∧ Below w.heap.size w w' := by
  have hm := h.1
  have hh := Lib.hid h
  have hq := Lib.hid (QB.new w x P.length c 33)
  clear h
  cases hg : geB P
  · have hv := Lib.hid (aa_no1 (l := l) (ga_no1 (i := i) hg))
    go_enter Try.func122, Try.ntmps122
    go_wp2_with fail
    refine (iGeo_any _ _ _ _ (hh.out.below (by exact (by repeat (first | exact Below.refl _ _ | assumption | refine Below.drew ?_ | refine below_drewN ?_ _ | refine Below.alloc' ?_ _ | (refine Below.setCell ?_ (by first | omega | (simp; done) | (simp; omega) | exact Below.size (by assumption) | exact Nat.le_trans (Below.size (by assumption)) (by simp)) _) | (refine Below.via' ?_ (by assumption)) | (refine Below.alloc ?_ (by first | omega | (simp; done) | (simp; omega) | exact Below.size (by assumption) | exact Nat.le_trans (Below.size (by assumption)) (by simp)) _) | (refine Below.via ?_ (by assumption) (by first | omega | (simp; done) | (simp; omega) | exact Below.size (by assumption) | exact Nat.le_trans (Below.size (by assumption)) (by simp)))))))).mono ?_
    rintro e w1 ⟨rfl, hb1⟩
    obtain ⟨ka, kb, kc⟩ := hq.out.below hb1
    rw [hg]
    go_wp2
    go_ret2
    exact ⟨ret_ibG hv.out.2.symm hv.out.1.symm, (by repeat (first | exact Below.refl _ _ | assumption | refine Below.drew ?_ | refine below_drewN ?_ _ | refine Below.alloc' ?_ _ | (refine Below.setCell ?_ (by first | omega | (simp; done) | (simp; omega) | exact Below.size (by assumption) | exact Nat.le_trans (Below.size (by assumption)) (by simp)) _) | (refine Below.via' ?_ (by assumption)) | (refine Below.alloc ?_ (by first | omega | (simp; done) | (simp; omega) | exact Below.size (by assumption) | exact Nat.le_trans (Below.size (by assumption)) (by simp)) _) | (refine Below.via ?_ (by assumption) (by first | omega | (simp; done) | (simp; omega) | exact Below.size (by assumption) | exact Nat.le_trans (Below.size (by assumption)) (by simp)))))⟩
  cases ha : inB i 0 ((P.length : Int) - 1)
  · have hv := Lib.hid (aa_no1 (l := l) (ga_no2 (i := i) ha))
    go_enter Try.func122, Try.ntmps122
    go_wp2_with fail
    refine (iGeo_any _ _ _ _ (hh.out.below (by exact (by repeat (first | exact Below.refl _ _ | assumption | refine Below.drew ?_ | refine below_drewN ?_ _ | refine Below.alloc' ?_ _ | (refine Below.setCell ?_ (by first | omega | (simp; done) | (simp; omega) | exact Below.size (by assumption) | exact Nat.le_trans (Below.size (by assumption)) (by simp)) _) | (refine Below.via' ?_ (by assumption)) | (refine Below.alloc ?_ (by first | omega | (simp; done) | (simp; omega) | exact Below.size (by assumption) | exact Nat.le_trans (Below.size (by assumption)) (by simp)) _) | (refine Below.via ?_ (by assumption) (by first | omega | (simp; done) | (simp; omega) | exact Below.size (by assumption) | exact Nat.le_trans (Below.size (by assumption)) (by simp)))))))).mono ?_
    rintro e w1 ⟨rfl, hb1⟩
    obtain ⟨ka1, kb1, kc1⟩ := hq.out.below hb1
    rw [hg]
    go_wp2_with fail
    refine (isArea_any _ _ _ _ _).mono ?_
    rintro e w2 ⟨rfl, hb2⟩
    obtain ⟨ka, kb, kc⟩ := (hq.out.below hb1).below hb2
    clear ka1 kb1 kc1
    rw [ha]
    go_wp2
    go_ret2
    exact ⟨ret_ibG hv.out.2.symm hv.out.1.symm, (by repeat (first | exact Below.refl _ _ | assumption | refine Below.drew ?_ | refine below_drewN ?_ _ | refine Below.alloc' ?_ _ | (refine Below.setCell ?_ (by first | omega | (simp; done) | (simp; omega) | exact Below.size (by assumption) | exact Nat.le_trans (Below.size (by assumption)) (by simp)) _) | (refine Below.via' ?_ (by assumption)) | (refine Below.alloc ?_ (by first | omega | (simp; done) | (simp; omega) | exact Below.size (by assumption) | exact Nat.le_trans (Below.size (by assumption)) (by simp)) _) | (refine Below.via ?_ (by assumption) (by first | omega | (simp; done) | (simp; omega) | exact Below.size (by assumption) | exact Nat.le_trans (Below.size (by assumption)) (by simp)))))⟩
  have hga := ga_yes hg ha
  obtain ⟨-, k, rfl, hk⟩ := ga_get hga
  have hgh := Lib.hid hg
  have hpl := pt_len P k
  have hpd := dp_le hg hk
  have hlen := ge_len hg
  by_cases hl : 0 ≤ l ∧ l ≤ dpN P k
  · have hv := Lib.hid (aa_yes hga hl.1 hl.2)
    obtain ⟨n, rfl⟩ := Int.eq_ofNat_of_zero_le hl.1
    have hnl : n < (ptL P k).length := by omega
    have hat : (ptL P k)[n]? = some ((ptL P k)[n]) := List.getElem?_eq_getElem hnl
    have han := an_at hat
    obtain ⟨z, hz⟩ : ∃ z, z = (ptL P k)[n] := ⟨_, rfl⟩
    rw [← hz] at hat han
    replace hz := Lib.hid hz
    have hat := Lib.hid hat
    have han := Lib.hid han
    have h0' : (0 : Int) ≤ (n : Int) := hl.1
    have h1' : (n : Int) < ((ptL P k).length : Int) := by omega
    have hga := Lib.hid hga
    clear hl hpl
    go_enter Try.func122, Try.ntmps122
    go_wp2_with fail
    refine (iGeo_any _ _ _ _ (hh.out.below (by exact (by repeat (first | exact Below.refl _ _ | assumption | refine Below.drew ?_ | refine below_drewN ?_ _ | refine Below.alloc' ?_ _ | (refine Below.setCell ?_ (by first | omega | (simp; done) | (simp; omega) | exact Below.size (by assumption) | exact Nat.le_trans (Below.size (by assumption)) (by simp)) _) | (refine Below.via' ?_ (by assumption)) | (refine Below.alloc ?_ (by first | omega | (simp; done) | (simp; omega) | exact Below.size (by assumption) | exact Nat.le_trans (Below.size (by assumption)) (by simp)) _) | (refine Below.via ?_ (by assumption) (by first | omega | (simp; done) | (simp; omega) | exact Below.size (by assumption) | exact Nat.le_trans (Below.size (by assumption)) (by simp)))))))).mono ?_
    rintro e w1 ⟨rfl, hb1⟩
    obtain ⟨ka1, kb1, kc1⟩ := hq.out.below hb1
    rw [hg]
    go_wp2_with fail
    refine (isArea_any _ _ _ _ _).mono ?_
    rintro e w2 ⟨rfl, hb2⟩
    obtain ⟨ka, kb, kc⟩ := (hq.out.below hb1).below hb2
    clear ka1 kb1 kc1
    rw [ha]
    go_wp2_with fail
    refine (pathTo_any _ _ P k _ hgh.out hk (hh.out.below (by exact (by repeat (first | exact Below.refl _ _ | assumption | refine Below.drew ?_ | refine below_drewN ?_ _ | refine Below.alloc' ?_ _ | (refine Below.setCell ?_ (by first | omega | (simp; done) | (simp; omega) | exact Below.size (by assumption) | exact Nat.le_trans (Below.size (by assumption)) (by simp)) _) | (refine Below.via' ?_ (by assumption)) | (refine Below.alloc ?_ (by first | omega | (simp; done) | (simp; omega) | exact Below.size (by assumption) | exact Nat.le_trans (Below.size (by assumption)) (by simp)) _) | (refine Below.via ?_ (by assumption) (by first | omega | (simp; done) | (simp; omega) | exact Below.size (by assumption) | exact Nat.le_trans (Below.size (by assumption)) (by simp)))))))).mono ?_
    rintro e w5 ⟨v5, rfl, ho5, hb5⟩
    obtain ⟨g5, c5, rfl⟩ := own_someV ho5 (by omega)
    obtain ⟨u, hu, k0⟩ := own_cell ho5 (j := n) (by omega)
    obtain rfl : u = .int .i64 z := Option.some.inj (hu.symm.trans (iC_at hat.out))
    have hu := Lib.hid hu
    clear ho5
    go_wp2
    go_ret2
    exact ⟨ret_ibG (by rw [hv.out.2, han.out]) hv.out.1.symm, (by repeat (first | exact Below.refl _ _ | assumption | refine Below.drew ?_ | refine below_drewN ?_ _ | refine Below.alloc' ?_ _ | (refine Below.setCell ?_ (by first | omega | (simp; done) | (simp; omega) | exact Below.size (by assumption) | exact Nat.le_trans (Below.size (by assumption)) (by simp)) _) | (refine Below.via' ?_ (by assumption)) | (refine Below.alloc ?_ (by first | omega | (simp; done) | (simp; omega) | exact Below.size (by assumption) | exact Nat.le_trans (Below.size (by assumption)) (by simp)) _) | (refine Below.via ?_ (by assumption) (by first | omega | (simp; done) | (simp; omega) | exact Below.size (by assumption) | exact Nat.le_trans (Below.size (by assumption)) (by simp)))))⟩
  have hv := Lib.hid (aa_no2 hl)
  have hga := Lib.hid hga
  have hlm : ((ptL P k).length : Int) = (dpN P k : Int) + 1 := by omega
  by_cases hn : l < 0
  · clear hl hpl hlm
    go_enter Try.func122, Try.ntmps122
    go_wp2_with fail
    refine (iGeo_any _ _ _ _ (hh.out.below (by exact (by repeat (first | exact Below.refl _ _ | assumption | refine Below.drew ?_ | refine below_drewN ?_ _ | refine Below.alloc' ?_ _ | (refine Below.setCell ?_ (by first | omega | (simp; done) | (simp; omega) | exact Below.size (by assumption) | exact Nat.le_trans (Below.size (by assumption)) (by simp)) _) | (refine Below.via' ?_ (by assumption)) | (refine Below.alloc ?_ (by first | omega | (simp; done) | (simp; omega) | exact Below.size (by assumption) | exact Nat.le_trans (Below.size (by assumption)) (by simp)) _) | (refine Below.via ?_ (by assumption) (by first | omega | (simp; done) | (simp; omega) | exact Below.size (by assumption) | exact Nat.le_trans (Below.size (by assumption)) (by simp)))))))).mono ?_
    rintro e w1 ⟨rfl, hb1⟩
    obtain ⟨ka1, kb1, kc1⟩ := hq.out.below hb1
    rw [hg]
    go_wp2_with fail
    refine (isArea_any _ _ _ _ _).mono ?_
    rintro e w2 ⟨rfl, hb2⟩
    obtain ⟨ka, kb, kc⟩ := (hq.out.below hb1).below hb2
    clear ka1 kb1 kc1
    rw [ha]
    go_wp2_with fail
    refine (pathTo_any _ _ P k _ hgh.out hk (hh.out.below (by exact (by repeat (first | exact Below.refl _ _ | assumption | refine Below.drew ?_ | refine below_drewN ?_ _ | refine Below.alloc' ?_ _ | (refine Below.setCell ?_ (by first | omega | (simp; done) | (simp; omega) | exact Below.size (by assumption) | exact Nat.le_trans (Below.size (by assumption)) (by simp)) _) | (refine Below.via' ?_ (by assumption)) | (refine Below.alloc ?_ (by first | omega | (simp; done) | (simp; omega) | exact Below.size (by assumption) | exact Nat.le_trans (Below.size (by assumption)) (by simp)) _) | (refine Below.via ?_ (by assumption) (by first | omega | (simp; done) | (simp; omega) | exact Below.size (by assumption) | exact Nat.le_trans (Below.size (by assumption)) (by simp)))))))).mono ?_
    rintro e w5 ⟨v5, rfl, ho5, hb5⟩
    clear ho5
    go_wp2
    go_ret2
    exact ⟨ret_ibG hv.out.2.symm hv.out.1.symm, (by repeat (first | exact Below.refl _ _ | assumption | refine Below.drew ?_ | refine below_drewN ?_ _ | refine Below.alloc' ?_ _ | (refine Below.setCell ?_ (by first | omega | (simp; done) | (simp; omega) | exact Below.size (by assumption) | exact Nat.le_trans (Below.size (by assumption)) (by simp)) _) | (refine Below.via' ?_ (by assumption)) | (refine Below.alloc ?_ (by first | omega | (simp; done) | (simp; omega) | exact Below.size (by assumption) | exact Nat.le_trans (Below.size (by assumption)) (by simp)) _) | (refine Below.via ?_ (by assumption) (by first | omega | (simp; done) | (simp; omega) | exact Below.size (by assumption) | exact Nat.le_trans (Below.size (by assumption)) (by simp)))))⟩
  · have hge : ((ptL P k).length : Int) ≤ l := by omega
    have hpn : 0 < (ptL P k).length := by omega
    clear hl hpl hlm
    go_enter Try.func122, Try.ntmps122
    go_wp2_with fail
    refine (iGeo_any _ _ _ _ (hh.out.below (by exact (by repeat (first | exact Below.refl _ _ | assumption | refine Below.drew ?_ | refine below_drewN ?_ _ | refine Below.alloc' ?_ _ | (refine Below.setCell ?_ (by first | omega | (simp; done) | (simp; omega) | exact Below.size (by assumption) | exact Nat.le_trans (Below.size (by assumption)) (by simp)) _) | (refine Below.via' ?_ (by assumption)) | (refine Below.alloc ?_ (by first | omega | (simp; done) | (simp; omega) | exact Below.size (by assumption) | exact Nat.le_trans (Below.size (by assumption)) (by simp)) _) | (refine Below.via ?_ (by assumption) (by first | omega | (simp; done) | (simp; omega) | exact Below.size (by assumption) | exact Nat.le_trans (Below.size (by assumption)) (by simp)))))))).mono ?_
    rintro e w1 ⟨rfl, hb1⟩
    obtain ⟨ka1, kb1, kc1⟩ := hq.out.below hb1
    rw [hg]
    go_wp2_with fail
    refine (isArea_any _ _ _ _ _).mono ?_
    rintro e w2 ⟨rfl, hb2⟩
    obtain ⟨ka, kb, kc⟩ := (hq.out.below hb1).below hb2
    clear ka1 kb1 kc1
    rw [ha]
    go_wp2_with fail
    refine (pathTo_any _ _ P k _ hgh.out hk (hh.out.below (by exact (by repeat (first | exact Below.refl _ _ | assumption | refine Below.drew ?_ | refine below_drewN ?_ _ | refine Below.alloc' ?_ _ | (refine Below.setCell ?_ (by first | omega | (simp; done) | (simp; omega) | exact Below.size (by assumption) | exact Nat.le_trans (Below.size (by assumption)) (by simp)) _) | (refine Below.via' ?_ (by assumption)) | (refine Below.alloc ?_ (by first | omega | (simp; done) | (simp; omega) | exact Below.size (by assumption) | exact Nat.le_trans (Below.size (by assumption)) (by simp)) _) | (refine Below.via ?_ (by assumption) (by first | omega | (simp; done) | (simp; omega) | exact Below.size (by assumption) | exact Nat.le_trans (Below.size (by assumption)) (by simp)))))))).mono ?_
    rintro e w5 ⟨v5, rfl, ho5, hb5⟩
    obtain ⟨g5, c5, rfl⟩ := own_someV ho5 hpn
    clear ho5
    go_wp2
    go_ret2
    exact ⟨ret_ibG hv.out.2.symm hv.out.1.symm, (by repeat (first | exact Below.refl _ _ | assumption | refine Below.drew ?_ | refine below_drewN ?_ _ | refine Below.alloc' ?_ _ | (refine Below.setCell ?_ (by first | omega | (simp; done) | (simp; omega) | exact Below.size (by assumption) | exact Nat.le_trans (Below.size (by assumption)) (by simp)) _) | (refine Below.via' ?_ (by assumption)) | (refine Below.alloc ?_ (by first | omega | (simp; done) | (simp; omega) | exact Below.size (by assumption) | exact Nat.le_trans (Below.size (by assumption)) (by simp)) _) | (refine Below.via ?_ (by assumption) (by first | omega | (simp; done) | (simp; omega) | exact Below.size (by assumption) | exact Nat.le_trans (Below.size (by assumption)) (by simp)))))⟩
end Go.Proofs.Ytgkaalonmkcclaa

namespace Go.Proofs.Ytgkaalonmkcclaa
open Go.RowKit
set_option maxRecDepth 100000

theorem elemsI_l (x y : Option Addr) (c1 c2 : Nat) (V F : List Int) (w : World) (hp : InP V.length F) (hV : IIn w y V) (hF : Rd w x (iC F)) :
    Calls Try.prog 124 #[.slice y V.length c1, .slice x F.length c2] w fun e w' => e = .returned (.slice (some ⟨w.heap.size, 0, none⟩) (tbV V F).length (tbV V F).length) ∧ Rd w' (some ⟨w.heap.size, 0, none⟩) (iC (tbV V F)) ∧ Below w.heap.size w w' := by
  refine (elemsI_any x y c1 c2 V F w hp hV hF).mono ?_
  rintro e w' ⟨rfl, ho, hb⟩
  exact ⟨by rw [tbV_len], Rd.of_own ho, hb⟩
theorem ret_ii {a b d e : Int} (h : a = b) (k : d = e) : Ending.returned (.tuple #[.int .i64 a, .int .i64 d]) = .returned (.tuple #[.int .i64 b, .int .i64 e]) := by rw [h, k]
/-- A record that goes with a table: its area is one, its values fit. -/
structure ClP (P : List Int) (S : List (ByteArray × Int)) (k : Nat) (V : List Int) : Prop where
  a : k < P.length
  f : fitB S V = true
section
variable {P : List Int} {S : List (ByteArray × Int)} {l : Int} {F W : List Int} {m : Int} {k : Nat} {V : List Int}
theorem clp_no (h : ¬ (0 ≤ anZ P k l ∧ tmB W V = true)) : clI P S l F W (k : Int) V = -1 ∧ clN P l W m (k : Int) V = 0 := by
  refine cl_no ?_
  rw [Int.toNat_natCast]
  exact h
theorem clp_yes (h : 0 ≤ anZ P k l) (h2 : tmB W V = true) : clI P S l F W (k : Int) V = ceZ P S l F (anZ P k l) (tbV V F) := by
  have := cl_yes (P := P) (S := S) (l := l) (F := F) (a := (k : Int)) (by rw [Int.toNat_natCast]; exact h) h2
  rwa [Int.toNat_natCast] at this
theorem clp_one (h : 0 ≤ anZ P k l) (h2 : tmB W V = true) (hm : m < 0) : clN P l W m (k : Int) V = 1 := cl_one (by rw [Int.toNat_natCast]; exact h) h2 hm
theorem clp_val {v : Int} (h : 0 ≤ anZ P k l) (h2 : tmB W V = true) (hm : 0 ≤ m) (hv : V[m.toNat]? = some v) : clN P l W m (k : Int) V = v := cl_val (by rw [Int.toNat_natCast]; exact h) h2 hm hv
theorem clp_aa (hg : geB P = true) (ha : k < P.length) : aaB P k l = decide (0 ≤ anZ P k l) ∧ (0 ≤ anZ P k l → aaZ P k l = anZ P k l) := by
  have hga := ga_yes hg ((inB_iff (k : Int) 0 ((P.length : Int) - 1)).2 ⟨by omega, by omega⟩)
  have hb := (an_bd hg ha l).2.2
  by_cases h : 0 ≤ l ∧ l ≤ dpN P k
  · have := aa_yes hga h.1 h.2
    exact ⟨by rw [this.1, decide_eq_true (hb.2 h)], fun _ => this.2⟩
  · have := aa_no2 (P := P) (k := k) h
    have hn : ¬ 0 ≤ anZ P k l := fun q => h (hb.1 q)
    exact ⟨by rw [this.1, decide_eq_false hn], fun q => absurd q hn⟩
end

set_option maxHeartbeats 16000000 in
theorem contrib_any (p x z ga va v : Option Addr) (c c2 c3 ca cv c4 : Nat) (P : List Int) (S : List (ByteArray × Int)) (l : Int) (F W : List Int) (m : Int) (k : Nat) (h : Int) (V : List Int) (w : World) (htg : TgP P S l F W m) (hcl : ClP P S k V) (hP : IIn w p P) (hF : IIn w x F) (hW : IIn w z W) (hA : IIn w ga (lvL P l)) (hT : Rd w va (vC (tbS S F))) (hV : IIn w v V) :
    Calls Try.prog 89 #[.agg #[.slice p P.length c, .int .i64 l, .slice x F.length c2, .slice z W.length c3, .int .i64 m, .slice ga (lvL P l).length ca, .slice va (tbS S F).length cv], .agg #[.int .i64 k, .int .i64 h, .slice v V.length c4]] w fun e w' => e = .returned (.tuple #[.int .i64 (clI P S l F W (k : Int) V), .int .i64 (clN P l W m (k : Int) V)]) ∧ Below w.heap.size w w' := by
  have p1 := Lib.hid (g7_of_wb (Wb.new w 91 #[.slice p P.length c, .int .i64 l, .slice x F.length c2, .slice z W.length c3, .int .i64 m, .slice ga (lvL P l).length ca, .slice va (tbS S F).length cv]))
  have p2 := Lib.hid (RB.new (w.alloc (.cells #[.slice p P.length c, .int .i64 l, .slice x F.length c2, .slice z W.length c3, .int .i64 m, .slice ga (lvL P l).length ca, .slice va (tbS S F).length cv] 91)) k h v V.length c4 72)
  obtain ⟨w0, hw0⟩ : ∃ w0, w0 = (w.alloc (.cells #[.slice p P.length c, .int .i64 l, .slice x F.length c2, .slice z W.length c3, .int .i64 m, .slice ga (lvL P l).length ca, .slice va (tbS S F).length cv] 91)).alloc (.cells #[.int .i64 k, .int .i64 h, .slice v V.length c4] 72) := ⟨_, rfl⟩
  have B0 : Below w.heap.size w w0 := by rw [hw0]; exact (by repeat (first | exact Below.refl _ _ | assumption | refine Below.drew ?_ | refine below_drewN ?_ _ | refine Below.alloc' ?_ _ | (refine Below.setCell ?_ (by first | omega | (simp; done) | (simp; omega) | exact Below.size (by assumption) | exact Nat.le_trans (Below.size (by assumption)) (by simp)) _) | (refine Below.via' ?_ (by assumption)) | (refine Below.alloc ?_ (by first | omega | (simp; done) | (simp; omega) | exact Below.size (by assumption) | exact Nat.le_trans (Below.size (by assumption)) (by simp)) _) | (refine Below.via ?_ (by assumption) (by first | omega | (simp; done) | (simp; omega) | exact Below.size (by assumption) | exact Nat.le_trans (Below.size (by assumption)) (by simp)))))
  have gq0 : Hid (G7 w0 w.heap.size (.slice p P.length c) (.int .i64 l) (.slice x F.length c2) (.slice z W.length c3) (.int .i64 m) (.slice ga (lvL P l).length ca) (.slice va (tbS S F).length cv)) := by
    rw [hw0]
    exact p1.out.below (show Below (w.alloc (.cells #[.slice p P.length c, .int .i64 l, .slice x F.length c2, .slice z W.length c3, .int .i64 m, .slice ga (lvL P l).length ca, .slice va (tbS S F).length cv] 91)).heap.size (w.alloc (.cells #[.slice p P.length c, .int .i64 l, .slice x F.length c2, .slice z W.length c3, .int .i64 m, .slice ga (lvL P l).length ca, .slice va (tbS S F).length cv] 91)) _ from (by repeat (first | exact Below.refl _ _ | assumption | refine Below.drew ?_ | refine below_drewN ?_ _ | refine Below.alloc' ?_ _ | (refine Below.setCell ?_ (by first | omega | (simp; done) | (simp; omega) | exact Below.size (by assumption) | exact Nat.le_trans (Below.size (by assumption)) (by simp)) _) | (refine Below.via' ?_ (by assumption)) | (refine Below.alloc ?_ (by first | omega | (simp; done) | (simp; omega) | exact Below.size (by assumption) | exact Nat.le_trans (Below.size (by assumption)) (by simp)) _) | (refine Below.via ?_ (by assumption) (by first | omega | (simp; done) | (simp; omega) | exact Below.size (by assumption) | exact Nat.le_trans (Below.size (by assumption)) (by simp))))))
  have rq0 : Hid (RB w0 (w.heap.size + 1) k h v V.length c4) := by
    have h0 := p2.out
    rw [World.size_alloc, ← hw0] at h0
    exact h0
  have z0 : w0.heap.size = w.heap.size + 1 + 1 := by rw [hw0]; simp
  clear p1 p2
  have hPh := Lib.hid hP
  have hFh := Lib.hid hF
  have hWh := Lib.hid hW
  have hAh := Lib.hid hA
  have hTh := Lib.hid hT
  have hVh := Lib.hid hV
  have hth := Lib.hid htg
  have hclh := Lib.hid hcl
  have hfn := Lib.hid (tw_fine htg.s htg.w hcl.f)
  have hip := Lib.hid (inP_of htg.s htg.r (fit_len hcl.f))
  have haa := clp_aa (l := l) htg.g hcl.a
  have hm0 := htg.m0
  clear hP hF hW hA hT hV htg hcl
  by_cases hz : 0 ≤ anZ P k l
  · have haa1 := Lib.hid (haa.1.trans (decide_eq_true hz))
    have haa2 := Lib.hid (haa.2 hz)
    clear haa
    go_enter Try.func89, Try.ntmps89
    go_wp2_with fail
    rw [← hw0]
    replace hw0 := Lib.hid hw0
    replace z0 := Lib.hid z0
    refine (iAA_x _ _ P (k : Int) l _ (hPh.out.below B0)).mono ?_
    rintro e w1 ⟨rfl, hb1⟩
    rw [haa1.out, haa2.out]
    have B1 : Below w.heap.size w w1 := Below.via' B0 hb1
    have gq1 := Lib.hid (gq0.out.below hb1)
    have rq1 := Lib.hid (rq0.out.below hb1)
    obtain ⟨i01, i11, i21, i31, i41, i51, i61, il1⟩ := gq1.out
    obtain ⟨ra1, rb1, rc1, rd1⟩ := rq1.out
    try clear i00 i10 i20 i30 i40 i50 i60 il0 ra0 rb0 rc0 rd0
    clear hb1
    go_wp2_with fail
    refine (meetsWhere_any _ _ _ _ _ _ _ _ _ _ _ W V _ hfn.out (hWh.out.below B1) (hVh.out.below B1)).mono ?_
    rintro e w2 ⟨rfl, hb2⟩
    have hs2 := hb2.size
    have hs1 := B1.size
    have B2 : Below w.heap.size w w2 := Below.via' B1 hb2
    have gq2 := Lib.hid (gq1.out.below hb2)
    have rq2 := Lib.hid (rq1.out.below hb2)
    obtain ⟨i02, i12, i22, i32, i42, i52, i62, il2⟩ := gq2.out
    obtain ⟨ra2, rb2, rc2, rd2⟩ := rq2.out
    try clear i01 i11 i21 i31 i41 i51 i61 il1 ra1 rb1 rc1 rd1
    clear hb2
    cases hm : tmB W V
    · have hv := Lib.hid (clp_no (P := P) (S := S) (l := l) (F := F) (W := W) (m := m) (k := k) (V := V) (fun q => by rw [hm] at q; cases q.2))
      go_wp2
      go_ret2
      exact ⟨ret_ii hv.out.1.symm hv.out.2.symm, B2⟩
    have hv1 := Lib.hid (clp_yes (S := S) (F := F) hz hm)
    have hone := fun q => clp_one (P := P) (l := l) (m := m) hz hm q
    have hval := fun (v : Int) (q : 0 ≤ m) => clp_val (P := P) (l := l) (v := v) hz hm q
    have hone := Lib.hid hone
    have hval := Lib.hid hval
    have hlv := Lib.hid (List.contains_iff_mem.2 (an_lv hth.out.g hclh.out.a hz))
    have hft := Lib.hid (tbV_fit hclh.out.f hth.out.r)
    replace hm := Lib.hid hm
    have hzl : w.heap.size < w2.heap.size := by have := il2; omega
    have hzl1 : w.heap.size + 1 < w2.heap.size := rd2
    go_wp2
    go_region_held3 (fun w' => Below (w2).heap.size (w2) w' ∧ (∀ b o, b < (w2).heap.size → w'.cell? ⟨b, o, none⟩ = (w2).cell? ⟨b, o, none⟩)) (first | exact keep_of (Below.refl _ _) | ((try go_split_ands); exact keep_of (by repeat (first | exact Below.refl _ _ | assumption | refine Below.drew ?_ | refine below_drewN ?_ _ | refine Below.alloc' ?_ _ | (refine Below.setCell ?_ (by first | omega | (simp; done) | (simp; omega) | exact Below.size (by assumption) | exact Nat.le_trans (Below.size (by assumption)) (by simp)) _) | (refine Below.via' ?_ (by assumption)) | (refine Below.alloc ?_ (by first | omega | (simp; done) | (simp; omega) | exact Below.size (by assumption) | exact Nat.le_trans (Below.size (by assumption)) (by simp)) _) | (refine Below.via ?_ (by assumption) (by first | omega | (simp; done) | (simp; omega) | exact Below.size (by assumption) | exact Nat.le_trans (Below.size (by assumption)) (by simp))))))) (first | (go_at_call 124; refine (elemsI_l _ _ _ _ V F _ hip.out (hVh.out.below (by exact (by repeat (first | exact Below.refl _ _ | assumption | refine Below.drew ?_ | refine below_drewN ?_ _ | refine Below.alloc' ?_ _ | (refine Below.setCell ?_ (by first | omega | (simp; done) | (simp; omega) | exact Below.size (by assumption) | exact Nat.le_trans (Below.size (by assumption)) (by simp)) _) | (refine Below.via' ?_ (by assumption)) | (refine Below.alloc ?_ (by first | omega | (simp; done) | (simp; omega) | exact Below.size (by assumption) | exact Nat.le_trans (Below.size (by assumption)) (by simp)) _) | (refine Below.via ?_ (by assumption) (by first | omega | (simp; done) | (simp; omega) | exact Below.size (by assumption) | exact Nat.le_trans (Below.size (by assumption)) (by simp))))))) (hFh.out.2.2.below (by exact (by repeat (first | exact Below.refl _ _ | assumption | refine Below.drew ?_ | refine below_drewN ?_ _ | refine Below.alloc' ?_ _ | (refine Below.setCell ?_ (by first | omega | (simp; done) | (simp; omega) | exact Below.size (by assumption) | exact Nat.le_trans (Below.size (by assumption)) (by simp)) _) | (refine Below.via' ?_ (by assumption)) | (refine Below.alloc ?_ (by first | omega | (simp; done) | (simp; omega) | exact Below.size (by assumption) | exact Nat.le_trans (Below.size (by assumption)) (by simp)) _) | (refine Below.via ?_ (by assumption) (by first | omega | (simp; done) | (simp; omega) | exact Below.size (by assumption) | exact Nat.le_trans (Below.size (by assumption)) (by simp)))))))).mono ?_; rintro e w3 ⟨rfl, hr3, hb3⟩; (have hr3 := Lib.hid hr3)) | (go_at_call 78; refine (gindex_any _ _ _ _ _ _ _ _ _ _ _ _ P S l F W m (anZ P k l) (tbV V F) _ hth.out hlv.out hft.out (hAh.out.below (by exact (by repeat (first | exact Below.refl _ _ | assumption | refine Below.drew ?_ | refine below_drewN ?_ _ | refine Below.alloc' ?_ _ | (refine Below.setCell ?_ (by first | omega | (simp; done) | (simp; omega) | exact Below.size (by assumption) | exact Nat.le_trans (Below.size (by assumption)) (by simp)) _) | (refine Below.via' ?_ (by assumption)) | (refine Below.alloc ?_ (by first | omega | (simp; done) | (simp; omega) | exact Below.size (by assumption) | exact Nat.le_trans (Below.size (by assumption)) (by simp)) _) | (refine Below.via ?_ (by assumption) (by first | omega | (simp; done) | (simp; omega) | exact Below.size (by assumption) | exact Nat.le_trans (Below.size (by assumption)) (by simp))))))) (hTh.out.below (by exact (by repeat (first | exact Below.refl _ _ | assumption | refine Below.drew ?_ | refine below_drewN ?_ _ | refine Below.alloc' ?_ _ | (refine Below.setCell ?_ (by first | omega | (simp; done) | (simp; omega) | exact Below.size (by assumption) | exact Nat.le_trans (Below.size (by assumption)) (by simp)) _) | (refine Below.via' ?_ (by assumption)) | (refine Below.alloc ?_ (by first | omega | (simp; done) | (simp; omega) | exact Below.size (by assumption) | exact Nat.le_trans (Below.size (by assumption)) (by simp)) _) | (refine Below.via ?_ (by assumption) (by first | omega | (simp; done) | (simp; omega) | exact Below.size (by assumption) | exact Nat.le_trans (Below.size (by assumption)) (by simp))))))) ⟨by rw [tbV_len]; have := hip.out.1; omega, tbI64 hVh.out.2.1, hr3.out.below (by exact (by repeat (first | exact Below.refl _ _ | assumption | refine Below.drew ?_ | refine below_drewN ?_ _ | refine Below.alloc' ?_ _ | (refine Below.setCell ?_ (by first | omega | (simp; done) | (simp; omega) | exact Below.size (by assumption) | exact Nat.le_trans (Below.size (by assumption)) (by simp)) _) | (refine Below.via' ?_ (by assumption)) | (refine Below.alloc ?_ (by first | omega | (simp; done) | (simp; omega) | exact Below.size (by assumption) | exact Nat.le_trans (Below.size (by assumption)) (by simp)) _) | (refine Below.via ?_ (by assumption) (by first | omega | (simp; done) | (simp; omega) | exact Below.size (by assumption) | exact Nat.le_trans (Below.size (by assumption)) (by simp))))))⟩).mono ?_; rintro e w4 ⟨rfl, hb4⟩)); rename_i hH; obtain ⟨hb5, hcl5⟩ := hH; have hz5 := hb5.size; (try simp at hz5); (try (have hly5 := Nat.lt_of_succ_le hz5)); (try (have hlx5 := Nat.lt_of_succ_lt hly5)); (try (have hlw5 := Nat.lt_of_succ_lt hlx5)); (try (have hle5 := Nat.le_of_lt hly5)); (try (have hya5 : w.heap.size < w5.heap.size := by omega)); (try (have hyb5 : w.heap.size + 1 < w5.heap.size := by omega)); (try (have hyc5 : w.heap.size + 1 + 1 < w5.heap.size := by omega)); (try (have hyd5 : wa.heap.size < w5.heap.size := by omega))
    have B5 : Below w.heap.size w w4 := (by repeat (first | exact Below.refl _ _ | assumption | refine Below.drew ?_ | refine below_drewN ?_ _ | refine Below.alloc' ?_ _ | (refine Below.setCell ?_ (by first | omega | (simp; done) | (simp; omega) | exact Below.size (by assumption) | exact Nat.le_trans (Below.size (by assumption)) (by simp)) _) | (refine Below.via' ?_ (by assumption)) | (refine Below.alloc ?_ (by first | omega | (simp; done) | (simp; omega) | exact Below.size (by assumption) | exact Nat.le_trans (Below.size (by assumption)) (by simp)) _) | (refine Below.via ?_ (by assumption) (by first | omega | (simp; done) | (simp; omega) | exact Below.size (by assumption) | exact Nat.le_trans (Below.size (by assumption)) (by simp)))))
    have B25 : Below w2.heap.size w2 w4 := (by repeat (first | exact Below.refl _ _ | assumption | refine Below.drew ?_ | refine below_drewN ?_ _ | refine Below.alloc' ?_ _ | (refine Below.setCell ?_ (by first | omega | (simp; done) | (simp; omega) | exact Below.size (by assumption) | exact Nat.le_trans (Below.size (by assumption)) (by simp)) _) | (refine Below.via' ?_ (by assumption)) | (refine Below.alloc ?_ (by first | omega | (simp; done) | (simp; omega) | exact Below.size (by assumption) | exact Nat.le_trans (Below.size (by assumption)) (by simp)) _) | (refine Below.via ?_ (by assumption) (by first | omega | (simp; done) | (simp; omega) | exact Below.size (by assumption) | exact Nat.le_trans (Below.size (by assumption)) (by simp)))))
    obtain ⟨j0, j1, j2, j3, j4, j5, j6, jl⟩ := gq2.out.below B25
    obtain ⟨ra5, rb5, rc5, rd5⟩ := rq2.out.below B25
    by_cases hmm : m = -1
    · have hm1 : (m == -1) = true := by rw [beq_iff_eq]; exact hmm
      have hv2 := Lib.hid (hone.out (by omega))
      replace hmm := Lib.hid hmm
      go_wp2
      go_ret2
      exact ⟨ret_ii hv1.out.symm hv2.out.symm, B5⟩
    have hm1 : (m == -1) = false := by rw [beq_eq_false_iff_ne]; exact hmm
    obtain ⟨q, rfl⟩ := Int.eq_ofNat_of_zero_le (show 0 ≤ m by omega)
    have hql : q < V.length := by have := hth.out.m1; have := fit_len hclh.out.f; omega
    obtain ⟨b6, o6, u6, hv6, hb6, hu6, k6⟩ := (hVh.out.2.2.below B5).int (i := q) hql
    subst hv6
    have hv2 := Lib.hid (hval.out u6 (by omega) (by rw [Int.toNat_natCast]; exact hu6))
    have hq1 : (q : Int) < (V.length : Int) := by omega
    have hq0 : (0 : Int) ≤ (q : Int) := by omega
    replace hu6 := Lib.hid hu6
    replace hmm := Lib.hid hmm
    go_wp2
    go_quiet (fail)
    go_wp2
    go_ret2
    exact ⟨ret_ii hv1.out.symm hv2.out.symm, (by repeat (first | exact Below.refl _ _ | assumption | refine Below.drew ?_ | refine below_drewN ?_ _ | refine Below.alloc' ?_ _ | (refine Below.setCell ?_ (by first | omega | (simp; done) | (simp; omega) | exact Below.size (by assumption) | exact Nat.le_trans (Below.size (by assumption)) (by simp)) _) | (refine Below.via' ?_ (by assumption)) | (refine Below.alloc ?_ (by first | omega | (simp; done) | (simp; omega) | exact Below.size (by assumption) | exact Nat.le_trans (Below.size (by assumption)) (by simp)) _) | (refine Below.via ?_ (by assumption) (by first | omega | (simp; done) | (simp; omega) | exact Below.size (by assumption) | exact Nat.le_trans (Below.size (by assumption)) (by simp)))))⟩
  · have haa1 := Lib.hid (haa.1.trans (decide_eq_false hz))
    clear haa
    have hv := Lib.hid (clp_no (P := P) (S := S) (l := l) (F := F) (W := W) (m := m) (k := k) (V := V) (fun q => hz q.1))
    go_enter Try.func89, Try.ntmps89
    go_wp2_with fail
    rw [← hw0]
    replace hw0 := Lib.hid hw0
    refine (iAA_x _ _ P (k : Int) l _ (hPh.out.below B0)).mono ?_
    rintro e w1 ⟨rfl, hb1⟩
    rw [haa1.out]
    go_wp2
    go_ret2
    exact ⟨ret_ii hv.out.1.symm hv.out.2.symm, Below.via' B0 hb1⟩
end Go.Proofs.Ytgkaalonmkcclaa

namespace Go.Proofs.Ytgkaalonmkcclaa
open Go.RowKit
set_option maxRecDepth 100000

set_option maxHeartbeats 16000000 in
theorem uCell_any (p y x z v : Option Addr) (c c1 c2 c3 c4 : Nat) (P : List Int) (S : List (ByteArray × Int)) (l : Int) (F W : List Int) (m : Int) (k : Nat) (h : Int) (V : List Int) (w : World) (htg : TgP P S l F W m) (hcl : ClP P S k V) (hP : IIn w p P) (hS : SIn w y c1 S) (hT : TIn w x z F W) (hV : IIn w v V) :
    Calls Try.prog 88 #[.agg #[.slice p P.length c], .slice y S.length c1, .agg #[.int .i64 l, .slice x F.length c2, .slice z W.length c3, .int .i64 m], .agg #[.int .i64 k, .int .i64 h, .slice v V.length c4]] w fun e w' => e = .returned (.tuple #[.int .i64 (clI P S l F W (k : Int) V), .int .i64 (clN P l W m (k : Int) V)]) ∧ Below w.heap.size w w' := by
  have p1 := Lib.hid (QB.new w p P.length c 33)
  have p2 := Lib.hid (TQ.new (w.alloc (.cells #[.slice p P.length c] 33)) l x F.length c2 z W.length c3 m 37)
  have p3 := Lib.hid (RB.new ((w.alloc (.cells #[.slice p P.length c] 33)).alloc (.cells #[.int .i64 l, .slice x F.length c2, .slice z W.length c3, .int .i64 m] 37)) k h v V.length c4 72)
  obtain ⟨w0, hw0⟩ : ∃ w0, w0 = ((w.alloc (.cells #[.slice p P.length c] 33)).alloc (.cells #[.int .i64 l, .slice x F.length c2, .slice z W.length c3, .int .i64 m] 37)).alloc (.cells #[.int .i64 k, .int .i64 h, .slice v V.length c4] 72) := ⟨_, rfl⟩
  have B0 : Below w.heap.size w w0 := by rw [hw0]; exact (by repeat (first | exact Below.refl _ _ | assumption | refine Below.drew ?_ | refine below_drewN ?_ _ | refine Below.alloc' ?_ _ | (refine Below.setCell ?_ (by first | omega | (simp; done) | (simp; omega) | exact Below.size (by assumption) | exact Nat.le_trans (Below.size (by assumption)) (by simp)) _) | (refine Below.via' ?_ (by assumption)) | (refine Below.alloc ?_ (by first | omega | (simp; done) | (simp; omega) | exact Below.size (by assumption) | exact Nat.le_trans (Below.size (by assumption)) (by simp)) _) | (refine Below.via ?_ (by assumption) (by first | omega | (simp; done) | (simp; omega) | exact Below.size (by assumption) | exact Nat.le_trans (Below.size (by assumption)) (by simp)))))
  have g0 : Hid (QB w0 w.heap.size p P.length c) := by
    rw [hw0]
    exact p1.out.below (show Below (w.alloc (.cells #[.slice p P.length c] 33)).heap.size (w.alloc (.cells #[.slice p P.length c] 33)) _ from (by repeat (first | exact Below.refl _ _ | assumption | refine Below.drew ?_ | refine below_drewN ?_ _ | refine Below.alloc' ?_ _ | (refine Below.setCell ?_ (by first | omega | (simp; done) | (simp; omega) | exact Below.size (by assumption) | exact Nat.le_trans (Below.size (by assumption)) (by simp)) _) | (refine Below.via' ?_ (by assumption)) | (refine Below.alloc ?_ (by first | omega | (simp; done) | (simp; omega) | exact Below.size (by assumption) | exact Nat.le_trans (Below.size (by assumption)) (by simp)) _) | (refine Below.via ?_ (by assumption) (by first | omega | (simp; done) | (simp; omega) | exact Below.size (by assumption) | exact Nat.le_trans (Below.size (by assumption)) (by simp))))))
  have t0 : Hid (TQ w0 (w.heap.size + 1) l x F.length c2 z W.length c3 m) := by
    rw [hw0]
    have h0 := p2.out.below (show Below ((w.alloc (.cells #[.slice p P.length c] 33)).alloc (.cells #[.int .i64 l, .slice x F.length c2, .slice z W.length c3, .int .i64 m] 37)).heap.size ((w.alloc (.cells #[.slice p P.length c] 33)).alloc (.cells #[.int .i64 l, .slice x F.length c2, .slice z W.length c3, .int .i64 m] 37)) (((w.alloc (.cells #[.slice p P.length c] 33)).alloc (.cells #[.int .i64 l, .slice x F.length c2, .slice z W.length c3, .int .i64 m] 37)).alloc (.cells #[.int .i64 k, .int .i64 h, .slice v V.length c4] 72)) from (by repeat (first | exact Below.refl _ _ | assumption | refine Below.drew ?_ | refine below_drewN ?_ _ | refine Below.alloc' ?_ _ | (refine Below.setCell ?_ (by first | omega | (simp; done) | (simp; omega) | exact Below.size (by assumption) | exact Nat.le_trans (Below.size (by assumption)) (by simp)) _) | (refine Below.via' ?_ (by assumption)) | (refine Below.alloc ?_ (by first | omega | (simp; done) | (simp; omega) | exact Below.size (by assumption) | exact Nat.le_trans (Below.size (by assumption)) (by simp)) _) | (refine Below.via ?_ (by assumption) (by first | omega | (simp; done) | (simp; omega) | exact Below.size (by assumption) | exact Nat.le_trans (Below.size (by assumption)) (by simp))))))
    rw [World.size_alloc] at h0
    exact h0
  have r0 : Hid (RB w0 (w.heap.size + 1 + 1) k h v V.length c4) := by
    have h0 := p3.out
    rw [World.size_alloc, World.size_alloc, ← hw0] at h0
    exact h0
  have z0 : w0.heap.size = w.heap.size + 1 + 1 + 1 := by rw [hw0]; simp
  clear p1 p2 p3
  have hPh := Lib.hid hP
  have hSh := Lib.hid hS.rd
  have hFh := Lib.hid hT.1
  have hWh := Lib.hid hT.2
  have hVh := Lib.hid hV
  have hth := Lib.hid htg
  have hclh := Lib.hid hcl
  have hgh := Lib.hid htg.g
  have hpt := Lib.hid (tbS_ok htg.s htg.r)
  have hfn := Lib.hid (tw_fine htg.s htg.w hcl.f)
  have hip := Lib.hid (inP_of htg.s htg.r (fit_len hcl.f))
  have hiq := Lib.hid (inP_of htg.s htg.r rfl)
  have hl30 := (ge_len htg.g).2
  have hm0 := htg.m0
  clear hP hS hT hV htg hcl
  by_cases hz : 0 ≤ anZ P k l
  · have hzn : ¬ anZ P k l < 0 := by omega
    go_enter Try.func88, Try.ntmps88
    go_wp2_with fail
    rw [← hw0]
    replace hw0 := Lib.hid hw0
    replace z0 := Lib.hid z0
    refine (gUp_any _ _ P k l _ hgh.out hclh.out.a (hPh.out.below B0)).mono ?_
    rintro e w1 ⟨rfl, hb1⟩
    have B1 : Below w.heap.size w w1 := Below.via' B0 hb1
    have g1 := Lib.hid (g0.out.below hb1)
    have t1 := Lib.hid (t0.out.below hb1)
    have r1 := Lib.hid (r0.out.below hb1)
    obtain ⟨ka1, kb1, kc1⟩ := g1.out
    obtain ⟨ta1, tb1, tc1, td1, te1⟩ := t1.out
    obtain ⟨ra1, rb1, rc1, rd1⟩ := r1.out
    try clear ka0 kb0 kc0 ta0 tb0 tc0 td0 te0 ra0 rb0 rc0 rd0
    clear hb1
    go_wp2_with fail
    refine (uMeets_any _ _ _ _ _ _ _ _ _ W V _ hfn.out (hWh.out.below B1) (hVh.out.below B1)).mono ?_
    rintro e w2 ⟨rfl, hb2⟩
    have B2 : Below w.heap.size w w2 := Below.via' B1 hb2
    have g2 := Lib.hid (g1.out.below hb2)
    have t2 := Lib.hid (t1.out.below hb2)
    have r2 := Lib.hid (r1.out.below hb2)
    obtain ⟨ka2, kb2, kc2⟩ := g2.out
    obtain ⟨ta2, tb2, tc2, td2, te2⟩ := t2.out
    obtain ⟨ra2, rb2, rc2, rd2⟩ := r2.out
    try clear ka1 kb1 kc1 ta1 tb1 tc1 td1 te1 ra1 rb1 rc1 rd1
    clear hb2
    cases hm : tmB W V
    · have hv := Lib.hid (clp_no (P := P) (S := S) (l := l) (F := F) (W := W) (m := m) (k := k) (V := V) (fun q => by rw [hm] at q; cases q.2))
      go_wp2
      go_ret2
      exact ⟨ret_ii hv.out.1.symm hv.out.2.symm, B2⟩
    have hv1 := Lib.hid (clp_yes (S := S) (F := F) hz hm)
    have hone := fun q => clp_one (P := P) (l := l) (m := m) hz hm q
    have hval := fun (v : Int) (q : 0 ≤ m) => clp_val (P := P) (l := l) (v := v) hz hm q
    have hone := Lib.hid hone
    have hval := Lib.hid hval
    have hlm := an_lv hth.out.g hclh.out.a hz
    have hft := Lib.hid (tbV_fit hclh.out.f hth.out.r)
    have hce := ce_bd hth.out hlm hft.out
    have hc := hth.out.c
    have q1 : IntKind.i64.wrap (fdI (lvL P l) (anZ P k l) * cnZ (tbS S F)) = fdI (lvL P l) (anZ P k l) * cnZ (tbS S F) := IntWalk.i64_in _ (by omega)
    have q2 : IntKind.i64.wrap (fdI (lvL P l) (anZ P k l) * cnZ (tbS S F) + ixZ (tbS S F) (tbV V F)) = fdI (lvL P l) (anZ P k l) * cnZ (tbS S F) + ixZ (tbS S F) (tbV V F) := IntWalk.i64_in _ (by unfold ceZ at hce; omega)
    clear hce hc hlm
    replace hm := Lib.hid hm
    go_wp2_with fail
    refine (sPart_any _ _ _ _ S F _ hiq.out (hSh.out.below B2) (hFh.out.2.2.below B2)).mono ?_
    rintro e w3 ⟨u3, rfl, ho3, hb3⟩
    obtain ⟨x3, n3, rfl, -, -⟩ := (OwR.of ho3).form
    have hr3 := Lib.hid (Rd.of_own ho3)
    clear ho3
    have hs3 := Nat.le_trans B2.size hb3.size
    have B3 : Below w.heap.size w w3 := Below.via' B2 hb3
    have g3 := Lib.hid (g2.out.below hb3)
    have t3 := Lib.hid (t2.out.below hb3)
    have r3 := Lib.hid (r2.out.below hb3)
    obtain ⟨ka3, kb3, kc3⟩ := g3.out
    obtain ⟨ta3, tb3, tc3, td3, te3⟩ := t3.out
    obtain ⟨ra3, rb3, rc3, rd3⟩ := r3.out
    try clear ka2 kb2 kc2 ta2 tb2 tc2 td2 te2 ra2 rb2 rc2 rd2
    clear hb3
    have hzl : w.heap.size < w3.heap.size := by have := rd3; omega
    have hzl1 : w.heap.size + 1 < w3.heap.size := by have := rd3; omega
    have hzl2 : w.heap.size + 1 + 1 < w3.heap.size := rd3
    go_wp2
    first | (go_region_held3 (fun w' => Below (w3).heap.size (w3) w' ∧ (∀ b o, b < (w3).heap.size → w'.cell? ⟨b, o, none⟩ = (w3).cell? ⟨b, o, none⟩)) (first | exact keep_of (Below.refl _ _) | ((try go_split_ands); exact keep_of (by repeat (first | exact Below.refl _ _ | assumption | refine Below.drew ?_ | refine below_drewN ?_ _ | refine Below.alloc' ?_ _ | (refine Below.setCell ?_ (by first | omega | (simp; done) | (simp; omega) | exact Below.size (by assumption) | exact Nat.le_trans (Below.size (by assumption)) (by simp)) _) | (refine Below.via' ?_ (by assumption)) | (refine Below.alloc ?_ (by first | omega | (simp; done) | (simp; omega) | exact Below.size (by assumption) | exact Nat.le_trans (Below.size (by assumption)) (by simp)) _) | (refine Below.via ?_ (by assumption) (by first | omega | (simp; done) | (simp; omega) | exact Below.size (by assumption) | exact Nat.le_trans (Below.size (by assumption)) (by simp))))))) (first | (go_at_call 73; refine (gLevel_any _ _ P l _ hgh.out (hPh.out.below (by exact (by repeat (first | exact Below.refl _ _ | assumption | refine Below.drew ?_ | refine below_drewN ?_ _ | refine Below.alloc' ?_ _ | (refine Below.setCell ?_ (by first | omega | (simp; done) | (simp; omega) | exact Below.size (by assumption) | exact Nat.le_trans (Below.size (by assumption)) (by simp)) _) | (refine Below.via' ?_ (by assumption)) | (refine Below.alloc ?_ (by first | omega | (simp; done) | (simp; omega) | exact Below.size (by assumption) | exact Nat.le_trans (Below.size (by assumption)) (by simp)) _) | (refine Below.via ?_ (by assumption) (by first | omega | (simp; done) | (simp; omega) | exact Below.size (by assumption) | exact Nat.le_trans (Below.size (by assumption)) (by simp)))))))).mono ?_; rintro e w4 ⟨v4, rfl, ho4, hb4⟩; obtain ⟨x4, n4, rfl, -, -⟩ := (OwR.of ho4).form; (have hi4 : Hid (IIn w4 x4 (lvL P l)) := iin_sel (by omega) (Rd.of_own ho4)); clear ho4) | (go_at_call 72; refine (l1Find_any _ _ (lvL P l) (anZ P k l) _ (hi4.out.below (by exact (by repeat (first | exact Below.refl _ _ | assumption | refine Below.drew ?_ | refine below_drewN ?_ _ | refine Below.alloc' ?_ _ | (refine Below.setCell ?_ (by first | omega | (simp; done) | (simp; omega) | exact Below.size (by assumption) | exact Nat.le_trans (Below.size (by assumption)) (by simp)) _) | (refine Below.via' ?_ (by assumption)) | (refine Below.alloc ?_ (by first | omega | (simp; done) | (simp; omega) | exact Below.size (by assumption) | exact Nat.le_trans (Below.size (by assumption)) (by simp)) _) | (refine Below.via ?_ (by assumption) (by first | omega | (simp; done) | (simp; omega) | exact Below.size (by assumption) | exact Nat.le_trans (Below.size (by assumption)) (by simp)))))))).mono ?_; rintro e w5 ⟨rfl, rfl⟩) | (go_at_call 74; refine (sCount_p _ _ (tbS S F) _ hpt.out (hr3.out.below (by exact (by repeat (first | exact Below.refl _ _ | assumption | refine Below.drew ?_ | refine below_drewN ?_ _ | refine Below.alloc' ?_ _ | (refine Below.setCell ?_ (by first | omega | (simp; done) | (simp; omega) | exact Below.size (by assumption) | exact Nat.le_trans (Below.size (by assumption)) (by simp)) _) | (refine Below.via' ?_ (by assumption)) | (refine Below.alloc ?_ (by first | omega | (simp; done) | (simp; omega) | exact Below.size (by assumption) | exact Nat.le_trans (Below.size (by assumption)) (by simp)) _) | (refine Below.via ?_ (by assumption) (by first | omega | (simp; done) | (simp; omega) | exact Below.size (by assumption) | exact Nat.le_trans (Below.size (by assumption)) (by simp)))))))).mono ?_; rintro e w6 ⟨rfl, hb6⟩) | (go_at_call 121; refine (sPick_any _ _ _ _ V F _ hip.out (hVh.out.below (by exact (by repeat (first | exact Below.refl _ _ | assumption | refine Below.drew ?_ | refine below_drewN ?_ _ | refine Below.alloc' ?_ _ | (refine Below.setCell ?_ (by first | omega | (simp; done) | (simp; omega) | exact Below.size (by assumption) | exact Nat.le_trans (Below.size (by assumption)) (by simp)) _) | (refine Below.via' ?_ (by assumption)) | (refine Below.alloc ?_ (by first | omega | (simp; done) | (simp; omega) | exact Below.size (by assumption) | exact Nat.le_trans (Below.size (by assumption)) (by simp)) _) | (refine Below.via ?_ (by assumption) (by first | omega | (simp; done) | (simp; omega) | exact Below.size (by assumption) | exact Nat.le_trans (Below.size (by assumption)) (by simp))))))) (hFh.out.2.2.below (by exact (by repeat (first | exact Below.refl _ _ | assumption | refine Below.drew ?_ | refine below_drewN ?_ _ | refine Below.alloc' ?_ _ | (refine Below.setCell ?_ (by first | omega | (simp; done) | (simp; omega) | exact Below.size (by assumption) | exact Nat.le_trans (Below.size (by assumption)) (by simp)) _) | (refine Below.via' ?_ (by assumption)) | (refine Below.alloc ?_ (by first | omega | (simp; done) | (simp; omega) | exact Below.size (by assumption) | exact Nat.le_trans (Below.size (by assumption)) (by simp)) _) | (refine Below.via ?_ (by assumption) (by first | omega | (simp; done) | (simp; omega) | exact Below.size (by assumption) | exact Nat.le_trans (Below.size (by assumption)) (by simp)))))))).mono ?_; rintro e w7 ⟨u7, rfl, ho7, hb7⟩; obtain ⟨x7, n7, rfl, -, -⟩ := (OwR.of ho7).form; (have hr7 := Lib.hid (Rd.of_own ho7)); clear ho7) | (go_at_call 75; refine (sIndex_p _ _ _ _ (tbS S F) (tbV V F) _ hpt.out hft.out (hr3.out.below (by exact (by repeat (first | exact Below.refl _ _ | assumption | refine Below.drew ?_ | refine below_drewN ?_ _ | refine Below.alloc' ?_ _ | (refine Below.setCell ?_ (by first | omega | (simp; done) | (simp; omega) | exact Below.size (by assumption) | exact Nat.le_trans (Below.size (by assumption)) (by simp)) _) | (refine Below.via' ?_ (by assumption)) | (refine Below.alloc ?_ (by first | omega | (simp; done) | (simp; omega) | exact Below.size (by assumption) | exact Nat.le_trans (Below.size (by assumption)) (by simp)) _) | (refine Below.via ?_ (by assumption) (by first | omega | (simp; done) | (simp; omega) | exact Below.size (by assumption) | exact Nat.le_trans (Below.size (by assumption)) (by simp))))))) ⟨by rw [tbV_len]; have := hip.out.1; omega, tbI64 hVh.out.2.1, hr7.out.below (by exact (by repeat (first | exact Below.refl _ _ | assumption | refine Below.drew ?_ | refine below_drewN ?_ _ | refine Below.alloc' ?_ _ | (refine Below.setCell ?_ (by first | omega | (simp; done) | (simp; omega) | exact Below.size (by assumption) | exact Nat.le_trans (Below.size (by assumption)) (by simp)) _) | (refine Below.via' ?_ (by assumption)) | (refine Below.alloc ?_ (by first | omega | (simp; done) | (simp; omega) | exact Below.size (by assumption) | exact Nat.le_trans (Below.size (by assumption)) (by simp)) _) | (refine Below.via ?_ (by assumption) (by first | omega | (simp; done) | (simp; omega) | exact Below.size (by assumption) | exact Nat.le_trans (Below.size (by assumption)) (by simp))))))⟩).mono ?_; rintro e w8 ⟨rfl, hb8⟩)); rename_i hH; obtain ⟨hb9, hcl9⟩ := hH; have hz9 := hb9.size; (try simp at hz9); (try (have hly9 := Nat.lt_of_succ_le hz9)); (try (have hlx9 := Nat.lt_of_succ_lt hly9)); (try (have hlw9 := Nat.lt_of_succ_lt hlx9)); (try (have hle9 := Nat.le_of_lt hly9)); (try (have hya9 : w.heap.size < w9.heap.size := by omega)); (try (have hyb9 : w.heap.size + 1 < w9.heap.size := by omega)); (try (have hyc9 : w.heap.size + 1 + 1 < w9.heap.size := by omega)); (try (have hyd9 : wa.heap.size < w9.heap.size := by omega))) | fail
    have B8 : Below w.heap.size w w8 := (by repeat (first | exact Below.refl _ _ | assumption | refine Below.drew ?_ | refine below_drewN ?_ _ | refine Below.alloc' ?_ _ | (refine Below.setCell ?_ (by first | omega | (simp; done) | (simp; omega) | exact Below.size (by assumption) | exact Nat.le_trans (Below.size (by assumption)) (by simp)) _) | (refine Below.via' ?_ (by assumption)) | (refine Below.alloc ?_ (by first | omega | (simp; done) | (simp; omega) | exact Below.size (by assumption) | exact Nat.le_trans (Below.size (by assumption)) (by simp)) _) | (refine Below.via ?_ (by assumption) (by first | omega | (simp; done) | (simp; omega) | exact Below.size (by assumption) | exact Nat.le_trans (Below.size (by assumption)) (by simp)))))
    have B38 : Below w3.heap.size w3 w8 := (by repeat (first | exact Below.refl _ _ | assumption | refine Below.drew ?_ | refine below_drewN ?_ _ | refine Below.alloc' ?_ _ | (refine Below.setCell ?_ (by first | omega | (simp; done) | (simp; omega) | exact Below.size (by assumption) | exact Nat.le_trans (Below.size (by assumption)) (by simp)) _) | (refine Below.via' ?_ (by assumption)) | (refine Below.alloc ?_ (by first | omega | (simp; done) | (simp; omega) | exact Below.size (by assumption) | exact Nat.le_trans (Below.size (by assumption)) (by simp)) _) | (refine Below.via ?_ (by assumption) (by first | omega | (simp; done) | (simp; omega) | exact Below.size (by assumption) | exact Nat.le_trans (Below.size (by assumption)) (by simp)))))
    obtain ⟨ta8, tb8, tc8, td8, te8⟩ := t3.out.below B38
    obtain ⟨ra8, rb8, rc8, rd8⟩ := r3.out.below B38
    by_cases hmm : m < 0
    · have hv2 := Lib.hid (hone.out hmm)
      go_wp2
      go_ret2
      exact ⟨ret_ii hv1.out.symm hv2.out.symm, B8⟩
    obtain ⟨q, rfl⟩ := Int.eq_ofNat_of_zero_le (show 0 ≤ m by omega)
    have hql : q < V.length := by have := hth.out.m1; have := fit_len hclh.out.f; omega
    obtain ⟨b9, o9, u9, hv9, hb9, hu9, k9⟩ := (hVh.out.2.2.below B8).int (i := q) hql
    subst hv9
    have hv2 := Lib.hid (hval.out u9 (by omega) (by rw [Int.toNat_natCast]; exact hu9))
    have hq1 : (q : Int) < (V.length : Int) := by omega
    have hq0 : (0 : Int) ≤ (q : Int) := by omega
    replace hu9 := Lib.hid hu9
    replace hmm := Lib.hid hmm
    have hq2 : ¬ (q : Int) < 0 := by omega
    go_wp2
    go_quiet (fail)
    go_wp2
    go_ret2
    exact ⟨ret_ii hv1.out.symm hv2.out.symm, (by repeat (first | exact Below.refl _ _ | assumption | refine Below.drew ?_ | refine below_drewN ?_ _ | refine Below.alloc' ?_ _ | (refine Below.setCell ?_ (by first | omega | (simp; done) | (simp; omega) | exact Below.size (by assumption) | exact Nat.le_trans (Below.size (by assumption)) (by simp)) _) | (refine Below.via' ?_ (by assumption)) | (refine Below.alloc ?_ (by first | omega | (simp; done) | (simp; omega) | exact Below.size (by assumption) | exact Nat.le_trans (Below.size (by assumption)) (by simp)) _) | (refine Below.via ?_ (by assumption) (by first | omega | (simp; done) | (simp; omega) | exact Below.size (by assumption) | exact Nat.le_trans (Below.size (by assumption)) (by simp)))))⟩
  · have hv := Lib.hid (clp_no (P := P) (S := S) (l := l) (F := F) (W := W) (m := m) (k := k) (V := V) (fun q => hz q.1))
    have hzn : anZ P k l < 0 := by omega
    go_enter Try.func88, Try.ntmps88
    go_wp2_with fail
    rw [← hw0]
    replace hw0 := Lib.hid hw0
    refine (gUp_any _ _ P k l _ hgh.out hclh.out.a (hPh.out.below B0)).mono ?_
    rintro e w1 ⟨rfl, hb1⟩
    go_wp2
    go_ret2
    exact ⟨ret_ii hv.out.1.symm hv.out.2.symm, Below.via' B0 hb1⟩
end Go.Proofs.Ytgkaalonmkcclaa

namespace Go.Proofs.Ytgkaalonmkcclaa
open Go.RowKit
set_option maxRecDepth 100000

/-- A survey's records go with a table. -/
theorem sv_cl {P : List Int} {S : List (ByteArray × Int)} {Q : List PR} {j : Nat} {q : PR} (hd : dokB S (pM Q) = true) (ht : tyB P (pM Q) = true) (hq : Q[j]? = some q) : ∃ k : Nat, q.a = k ∧ ClP P S k q.L := by
  have hm := List.mem_of_getElem? (pM_at hq)
  have h1 := dokB_mem hd hm
  unfold tyB at ht
  rw [List.all_eq_true] at ht
  have h2 := ht _ hm
  rw [List.contains_iff_mem] at h2
  obtain ⟨k, hk, hl, -⟩ := sel_mem.1 h2
  unfold rokB at h1
  simp only [Bool.and_eq_true] at h1
  exact ⟨k, hk, ⟨hl, h1.2⟩⟩
/-- The records of a cell; what RecordsIn answers. -/
def riF (P : List Int) (S : List (ByteArray × Int)) (l : Int) (F W : List Int) (i : Int) (M : List RV) : Nat → Bool := fun k => decide ((M[k]?.map fun r => clI P S l F W r.1 r.2.2) = some i)
def riB (P : List Int) (S : List (ByteArray × Int)) (l : Int) (F W : List Int) (m i : Int) (M : List RV) : Bool := tgB P S l F W m && ((dokB S M && tyB P M) && inB i 0 (tcZ P S l F - 1))
def riL (P : List Int) (S : List (ByteArray × Int)) (l : Int) (F W : List Int) (m i : Int) (M : List RV) : List Int := eIf (riB P S l F W m i M) (selK (riF P S l F W i M) M.length)
section
variable {P : List Int} {S : List (ByteArray × Int)} {l : Int} {F W : List Int} {m i : Int} {M : List RV}
theorem ri_no0 (h : riB P S l F W m i M = false) : riL P S l F W m i M = [] := eIf_f h
theorem ri_no1 (h : tgB P S l F W m = false) : riB P S l F W m i M = false := by unfold riB; rw [h]; rfl
theorem ri_no2 (h : (dokB S M && tyB P M) = false) : riB P S l F W m i M = false := by unfold riB; rw [h, Bool.false_and, Bool.and_false]
theorem ri_no3 (h : inB i 0 (tcZ P S l F - 1) = false) : riB P S l F W m i M = false := by unfold riB; rw [h, Bool.and_false, Bool.and_false]
theorem ri_yes (h : TgP P S l F W m) (h2 : (dokB S M && tyB P M) = true) (h3 : inB i 0 (tcZ P S l F - 1) = true) : riB P S l F W m i M = true ∧ riL P S l F W m i M = selK (riF P S l F W i M) M.length := by
  have e : riB P S l F W m i M = true := by unfold riB; rw [tg_iff.2 h, h2, h3]; rfl
  exact ⟨e, eIf_t e⟩
theorem ri_len : (riL P S l F W m i M).length ≤ 1048576 := by
  cases h : riB P S l F W m i M
  · rw [ri_no0 h]; simp
  · have h0 := h
    unfold riB at h0
    simp only [Bool.and_eq_true] at h0
    have := dokB_len h0.2.1.1
    unfold riL
    rw [eIf_t h]
    have := sel_len (riF P S l F W i M) M.length
    omega
theorem riF_at {Q : List PR} {j : Nat} {q : PR} (h : Q[j]? = some q) : riF P S l F W i (pM Q) j = decide (clI P S l F W q.a q.L = i) := by
  unfold riF
  rw [pM_at h]
  simp [PR.m]
end
theorem riLB_no {L : List Int} {b : Bool} {w w' : World} (h : L = []) (k : b = false) (hB : Below w.heap.size w w') : RetLB L b w (.returned (.tuple #[.slice none 0 0, .bool false])) w' := by
  rw [h, k]
  exact ⟨_, rfl, World.ownsRow_nil _ _ _ _, hB⟩
set_option maxHeartbeats 16000000 in
theorem sRI_x (p y x z v : Option Addr) (c c1 c2 c3 c4 : Nat) (P : List Int) (S : List (ByteArray × Int)) (l : Int) (F W : List Int) (m : Int) (Q : List PR) (i : Int) (w : World) (hP : IIn w p P) (hS : SIn w y c1 S) (hT : TIn w x z F W) (hQ : DIn w v Q) :
    Calls Try.prog 43 #[.agg #[.slice p P.length c], .slice y S.length c1, .agg #[.int .i64 l, .slice x F.length c2, .slice z W.length c3, .int .i64 m], .slice v Q.length c4, .int .i64 i] w (RetLB (riL P S l F W m i (pM Q)) (riB P S l F W m i (pM Q)) w) := by
  obtain ⟨i0, hii, hz0, hz1, hz2⟩ := info_parts Try.infoInt
  have hQh := Lib.hid hQ
  have hQl := hQ.1
  clear hQ
  have hPh := Lib.hid hP
  have hSh := Lib.hid hS
  have hFh := Lib.hid hT.1
  have hWh := Lib.hid hT.2
  clear hP hS hT
  have p1 := Lib.hid (QB.new w p P.length c 33)
  have p2 := Lib.hid (TQ.new (w.alloc (.cells #[.slice p P.length c] 33)) l x F.length c2 z W.length c3 m 37)
  obtain ⟨w0, hw0⟩ : ∃ w0, w0 = (w.alloc (.cells #[.slice p P.length c] 33)).alloc (.cells #[.int .i64 l, .slice x F.length c2, .slice z W.length c3, .int .i64 m] 37) := ⟨_, rfl⟩
  have B0 : Below w.heap.size w w0 := by rw [hw0]; exact (by repeat (first | exact Below.refl _ _ | assumption | refine Below.drew ?_ | refine below_drewN ?_ _ | refine Below.alloc' ?_ _ | (refine Below.setCell ?_ (by first | omega | (simp; done) | (simp; omega) | exact Below.size (by assumption) | exact Nat.le_trans (Below.size (by assumption)) (by simp)) _) | (refine Below.via' ?_ (by assumption)) | (refine Below.alloc ?_ (by first | omega | (simp; done) | (simp; omega) | exact Below.size (by assumption) | exact Nat.le_trans (Below.size (by assumption)) (by simp)) _) | (refine Below.via ?_ (by assumption) (by first | omega | (simp; done) | (simp; omega) | exact Below.size (by assumption) | exact Nat.le_trans (Below.size (by assumption)) (by simp)))))
  have g0 : Hid (QB w0 w.heap.size p P.length c) := by
    rw [hw0]
    exact p1.out.below (show Below (w.alloc (.cells #[.slice p P.length c] 33)).heap.size (w.alloc (.cells #[.slice p P.length c] 33)) _ from (by repeat (first | exact Below.refl _ _ | assumption | refine Below.drew ?_ | refine below_drewN ?_ _ | refine Below.alloc' ?_ _ | (refine Below.setCell ?_ (by first | omega | (simp; done) | (simp; omega) | exact Below.size (by assumption) | exact Nat.le_trans (Below.size (by assumption)) (by simp)) _) | (refine Below.via' ?_ (by assumption)) | (refine Below.alloc ?_ (by first | omega | (simp; done) | (simp; omega) | exact Below.size (by assumption) | exact Nat.le_trans (Below.size (by assumption)) (by simp)) _) | (refine Below.via ?_ (by assumption) (by first | omega | (simp; done) | (simp; omega) | exact Below.size (by assumption) | exact Nat.le_trans (Below.size (by assumption)) (by simp))))))
  have t0 : Hid (TQ w0 (w.heap.size + 1) l x F.length c2 z W.length c3 m) := by
    have h0 := p2.out
    rw [World.size_alloc, ← hw0] at h0
    exact h0
  have z0 : w0.heap.size = w.heap.size + 1 + 1 := by rw [hw0]; simp
  clear p1 p2
  go_enter Try.func43, Try.ntmps43
  go_wp2_with fail
  rw [← hw0]
  replace hw0 := Lib.hid hw0
  replace z0 := Lib.hid z0
  refine (uGood_any p y x z _ _ _ _ P S l m F W _ (hPh.out.below B0) (hSh.out.below B0) ⟨hFh.out.below B0, hWh.out.below B0⟩).mono ?_
  rintro e w1 ⟨rfl, hb1⟩
  have B1 : Below w.heap.size w w1 := Below.via' B0 hb1
  have g1 := Lib.hid (g0.out.below hb1)
  have t1 := Lib.hid (t0.out.below hb1)
  obtain ⟨ka1, kb1, kc1⟩ := g1.out
  obtain ⟨ta1, tb1, tc1, td1, te1⟩ := t1.out
  try clear ka0 kb0 kc0 ta0 tb0 tc0 td0 te0
  clear hb1
  cases htg : tgB P S l F W m
  · have hv := Lib.hid (ri_no1 (i := i) (M := pM Q) htg)
    go_wp2
    go_ret2
    exact riLB_no (ri_no0 hv.out) hv.out B1
  have htp := tg_iff.1 htg
  have hgh := Lib.hid htp.g
  have hsh := Lib.hid htp.s
  have hrh := Lib.hid htp.r
  have hl30 := (ge_len htp.g).2
  have hc6 := htp.c
  have hc1 := tc_pos htp
  have hth := Lib.hid htp
  replace htg := Lib.hid htg
  clear htp
  go_wp2_with fail
  refine (uSurvey_any _ _ _ _ _ _ P S Q _ (hPh.out.below B1) (hSh.out.below B1) (hQh.out.below B1)).mono ?_
  rintro e w2 ⟨rfl, hb2⟩
  have B2 : Below w.heap.size w w2 := Below.via' B1 hb2
  have g2 := Lib.hid (g1.out.below hb2)
  have t2 := Lib.hid (t1.out.below hb2)
  obtain ⟨ka2, kb2, kc2⟩ := g2.out
  obtain ⟨ta2, tb2, tc2, td2, te2⟩ := t2.out
  try clear ka1 kb1 kc1 ta1 tb1 tc1 td1 te1
  clear hb2
  rw [show (geB P && idB S (pM Q) && tyB P (pM Q)) = (dokB S (pM Q) && tyB P (pM Q)) by unfold idB; rw [hgh.out, hsh.out]; rfl]
  cases hsv : (dokB S (pM Q) && tyB P (pM Q))
  · have hv := Lib.hid (ri_no2 (l := l) (F := F) (W := W) (m := m) (i := i) hsv)
    go_wp2
    go_ret2
    exact riLB_no (ri_no0 hv.out) hv.out B2
  have hsv2 := hsv
  rw [Bool.and_eq_true] at hsv2
  have hdk := Lib.hid hsv2.1
  have hty := Lib.hid hsv2.2
  clear hsv2
  have hsvh := Lib.hid hsv
  have hQ40 : Q.length ≤ 40 := by have := dokB_len hdk.out; rwa [pM_len] at this
  clear hsv
  have q1 : IntKind.i64.wrap (tcZ P S l F - 1) = tcZ P S l F - 1 := IntWalk.i64_in _ (by omega)
  go_wp2_with fail
  refine (uCount_any p y x z _ _ _ _ P S l m F W _ hgh.out hsh.out hrh.out (hPh.out.below B2) (hSh.out.below B2) (hFh.out.below B2)).mono ?_
  rintro e w5 ⟨rfl, hb5⟩
  have B5 : Below w.heap.size w w5 := Below.via' B2 hb5
  have g5 := Lib.hid (g2.out.below hb5)
  have t5 := Lib.hid (t2.out.below hb5)
  obtain ⟨ka5, kb5, kc5⟩ := g5.out
  obtain ⟨ta5, tb5, tc5, td5, te5⟩ := t5.out
  try clear ka2 kb2 kc2 ta2 tb2 tc2 td2 te2
  clear hb5
  cases hin : inB i 0 (tcZ P S l F - 1)
  · have hv := Lib.hid (ri_no3 (W := W) (m := m) (M := pM Q) hin)
    go_wp2_with fail
    refine (l1In_any _ _ _ _).mono ?_
    rintro e w6 ⟨rfl, rfl⟩
    rw [hin]
    go_wp2
    go_ret2
    exact riLB_no (ri_no0 hv.out) hv.out B5
  have hv := Lib.hid (ri_yes hth.out hsvh.out hin)
  go_wp2_with fail
  refine (l1In_any _ _ _ _).mono ?_
  rintro e w6 ⟨rfl, rfl⟩
  rw [hin]
  replace hin := Lib.hid hin
  clear ka5 kb5 kc5 ta5 tb5 tc5 td5 te5 q1 hc1 hc6
  go_wp2
  go_loopw [12, 41] (fun u q wr => ∃ j : Nat, j ≤ Q.length ∧ q = .int .i64 j ∧ wr.ownsRow w5.heap.size 3 1 u (selK (riF P S l F W i (pM Q)) j).length (iC (selK (riF P S l F W i (pM Q)) j)) ∧ Below w5.heap.size w5 wr) (fun _ q _ => Q.length - (intOf q).toNat)
  case atStart => exact ⟨0, by omega, by go_num, World.ownsRow_nil _ _ _ _, Below.refl _ _⟩
  case round =>
    obtain ⟨j, hj, rfl, hown, hb⟩ := hrel
    have hownh := Lib.hid hown
    clear hown
    have hsl := sel_len (riF P S l F W i (pM Q)) j
    have Bw : Below w.heap.size w wr := Below.via' B5 hb
    by_cases hlt : j < Q.length
    · obtain ⟨bl, off, q, rfl, hbl, hQj, hc0, hc1, hc2⟩ := (hQh.out.2.2.below Bw).rec hlt
      obtain ⟨k, hka, hcl⟩ := sv_cl hdk.out hty.out hQj
      have hqr := Lib.hid ((hQh.out.2.1 q (List.mem_of_getElem? hQj)).2.2.below Bw)
      have hri := riF_at (P := P) (S := S) (l := l) (F := F) (W := W) (i := i) hQj
      have hclh := Lib.hid hcl
      obtain ⟨qa, qh, qx, qc, qL⟩ := q
      have hka : qa = (k : Int) := hka
      subst hka
      have hlt' : (j : Int) < (Q.length : Int) := by omega
      replace hQj := Lib.hid hQj
      replace hri : riF P S l F W i (pM Q) j = decide (clI P S l F W (k : Int) qL = i) := hri
      have hc2 : wr.cell? ⟨bl, off + j * 3 + 2, none⟩ = some (.slice qx qL.length qc) := hc2
      have BA : Below wr.heap.size wr (wr.alloc (.cells #[.int .i64 (k : Int), .int .i64 qh, .slice qx qL.length qc] 72)) := (by repeat (first | exact Below.refl _ _ | assumption | refine Below.drew ?_ | refine below_drewN ?_ _ | refine Below.alloc' ?_ _ | (refine Below.setCell ?_ (by first | omega | (simp; done) | (simp; omega) | exact Below.size (by assumption) | exact Nat.le_trans (Below.size (by assumption)) (by simp)) _) | (refine Below.via' ?_ (by assumption)) | (refine Below.alloc ?_ (by first | omega | (simp; done) | (simp; omega) | exact Below.size (by assumption) | exact Nat.le_trans (Below.size (by assumption)) (by simp)) _) | (refine Below.via ?_ (by assumption) (by first | omega | (simp; done) | (simp; omega) | exact Below.size (by assumption) | exact Nat.le_trans (Below.size (by assumption)) (by simp)))))
      obtain ⟨WA, hWA⟩ : ∃ WA, WA = wr.alloc (.cells #[.int .i64 (k : Int), .int .i64 qh, .slice qx qL.length qc] 72) := ⟨_, rfl⟩
      have hqn := RB.new wr k qh qx qL.length qc 72
      rw [← hWA] at BA hqn
      have hqn := Lib.hid hqn
      have hownA := Lib.hid (own_below hownh.out BA)
      have BwA : Below w.heap.size w WA := Below.via' Bw BA
      have B5A : Below w5.heap.size w5 WA := Below.via' hb BA
      replace hWA := Lib.hid hWA
      clear hcl
      have FF := And.intro (g5.out.below B5A) (And.intro (t5.out.below B5A) hqn.out); rw [hWA.out] at FF; obtain ⟨⟨ka, kb, kc⟩, ⟨ta, tb, tc, td, te⟩, ⟨ra, rb, rc, rd⟩⟩ := FF
      go_wp2_with fail
      rw [← hWA.out]
      refine (uCell_any _ _ _ _ _ _ _ _ _ _ P S l F W m k qh qL _ hth.out hclh.out (hPh.out.below BwA) (hSh.out.below BwA) ⟨hFh.out.below BwA, hWh.out.below BwA⟩ (hqr.out.below BA)).mono ?_
      rintro e w2 ⟨rfl, hb2⟩
      have hb2' : Below w5.heap.size w5 w2 := Below.via' B5A hb2
      have ho2 := Lib.hid (own_below hownA.out hb2)
      have hs0 := hb2'.size
      by_cases hci : clI P S l F W (k : Int) qL = i
      · have ht : (clI P S l F W (k : Int) qL == i) = true := by rw [beq_iff_eq]; exact hci
        have hsel := Lib.hid (sel_yes (p := riF P S l F W i (pM Q)) (k := j) (by rw [hri]; exact decide_eq_true hci))
        replace hci := Lib.hid hci
        clear hri
        go_wp2_with (at_builtin; go_loud (refine wpList_append_rd _ rfl (.tmp 57) (.tmp 59) 22 rfl (w5.heap.size) 3 i0 (.int .i64 0) 1 8 Try.underlying22 hii hz0 hz1 hz2 rfl (by decide) _ (selK (riF P S l F W i (pM Q)) j).length (iC (selK (riF P S l F W i (pM Q)) j)) rfl ((ho2.out.alloc _)) _ 1 1 rfl (Nat.le_refl _) (by intro h; cases h) (iC [((j : Int) : Int)]) rfl (rd_oneE _ _ _ _ (by simp)) (iC_one _) (by unfold maxLen; omega) (by omega) (by simp; omega) ?_); intro v3 w3 hown3 hgrow3 hwhere3)
        obtain ⟨hb3, hl3⟩ := append_below hb2' (fun k hk => (ho2.out.lt k hk).1) hgrow3 hwhere3
        have hown3 := Lib.hid (own_snocE hown3 hsel.out rfl)
        clear hgrow3 hwhere3
        go_wp2
        go_roundw
        case rel => exact ⟨j + 1, by omega, by go_num, hown3.out, hb3⟩
        case measure => simp [intOf]; omega
      · have ht : (clI P S l F W (k : Int) qL == i) = false := by rw [beq_eq_false_iff_ne]; exact hci
        have hsel := Lib.hid (sel_no (p := riF P S l F W i (pM Q)) (k := j) (by rw [hri]; exact decide_eq_false hci))
        replace hci := Lib.hid hci
        clear hri
        go_wp2
        go_roundw
        case rel => exact ⟨j + 1, by omega, by go_num, by rw [hsel.out]; exact ho2.out, hb2'⟩
        case measure => simp [intOf]; omega
    · have hij : j = Q.length := by omega
      subst hij
      go_wp2
      go_ret2
      refine ⟨_, ret_vb hv.out.1.symm, ?_, Bw⟩
      rw [hv.out.2, pM_len]
      exact own_more hownh.out B5.size
set_option maxHeartbeats 16000000 in
theorem iRI_x (p y x z v : Option Addr) (c c1 c2 c3 c4 : Nat) (P : List Int) (S : List (ByteArray × Int)) (l : Int) (F W : List Int) (m : Int) (Q : List PR) (i : Int) (w : World) (hP : IIn w p P) (hS : SIn w y c1 S) (hT : TIn w x z F W) (hQ : DIn w v Q) :
    Calls Try.prog 44 #[.agg #[.slice p P.length c], .slice y S.length c1, .agg #[.int .i64 l, .slice x F.length c2, .slice z W.length c3, .int .i64 m], .slice v Q.length c4, .int .i64 i] w (RetLB (riL P S l F W m i (pM Q)) (riB P S l F W m i (pM Q)) w) := by
  obtain ⟨i0, hii, hz0, hz1, hz2⟩ := info_parts Try.infoInt
  have hQh := Lib.hid hQ
  have hQl := hQ.1
  clear hQ
  have hPh := Lib.hid hP
  have hSh := Lib.hid hS
  have hFh := Lib.hid hT.1
  have hWh := Lib.hid hT.2
  clear hP hS hT
  have p1 := Lib.hid (QB.new w p P.length c 33)
  have p2 := Lib.hid (TQ.new (w.alloc (.cells #[.slice p P.length c] 33)) l x F.length c2 z W.length c3 m 37)
  obtain ⟨w0, hw0⟩ : ∃ w0, w0 = (w.alloc (.cells #[.slice p P.length c] 33)).alloc (.cells #[.int .i64 l, .slice x F.length c2, .slice z W.length c3, .int .i64 m] 37) := ⟨_, rfl⟩
  have B0 : Below w.heap.size w w0 := by rw [hw0]; exact (by repeat (first | exact Below.refl _ _ | assumption | refine Below.drew ?_ | refine below_drewN ?_ _ | refine Below.alloc' ?_ _ | (refine Below.setCell ?_ (by first | omega | (simp; done) | (simp; omega) | exact Below.size (by assumption) | exact Nat.le_trans (Below.size (by assumption)) (by simp)) _) | (refine Below.via' ?_ (by assumption)) | (refine Below.alloc ?_ (by first | omega | (simp; done) | (simp; omega) | exact Below.size (by assumption) | exact Nat.le_trans (Below.size (by assumption)) (by simp)) _) | (refine Below.via ?_ (by assumption) (by first | omega | (simp; done) | (simp; omega) | exact Below.size (by assumption) | exact Nat.le_trans (Below.size (by assumption)) (by simp)))))
  have g0 : Hid (QB w0 w.heap.size p P.length c) := by
    rw [hw0]
    exact p1.out.below (show Below (w.alloc (.cells #[.slice p P.length c] 33)).heap.size (w.alloc (.cells #[.slice p P.length c] 33)) _ from (by repeat (first | exact Below.refl _ _ | assumption | refine Below.drew ?_ | refine below_drewN ?_ _ | refine Below.alloc' ?_ _ | (refine Below.setCell ?_ (by first | omega | (simp; done) | (simp; omega) | exact Below.size (by assumption) | exact Nat.le_trans (Below.size (by assumption)) (by simp)) _) | (refine Below.via' ?_ (by assumption)) | (refine Below.alloc ?_ (by first | omega | (simp; done) | (simp; omega) | exact Below.size (by assumption) | exact Nat.le_trans (Below.size (by assumption)) (by simp)) _) | (refine Below.via ?_ (by assumption) (by first | omega | (simp; done) | (simp; omega) | exact Below.size (by assumption) | exact Nat.le_trans (Below.size (by assumption)) (by simp))))))
  have t0 : Hid (TQ w0 (w.heap.size + 1) l x F.length c2 z W.length c3 m) := by
    have h0 := p2.out
    rw [World.size_alloc, ← hw0] at h0
    exact h0
  have z0 : w0.heap.size = w.heap.size + 1 + 1 := by rw [hw0]; simp
  clear p1 p2
  go_enter Try.func44, Try.ntmps44
  go_wp2_with fail
  rw [← hw0]
  replace hw0 := Lib.hid hw0
  replace z0 := Lib.hid z0
  refine (gridOf_any p y x z _ _ _ _ P S l m F W _ (hPh.out.below B0) (hSh.out.below B0) ⟨hFh.out.below B0, hWh.out.below B0⟩).mono ?_
  rintro e w1 ⟨hb1, h1⟩
  have B1 : Below w.heap.size w w1 := Below.via' B0 hb1
  have g1 := Lib.hid (g0.out.below hb1)
  have t1 := Lib.hid (t0.out.below hb1)
  obtain ⟨ka1, kb1, kc1⟩ := g1.out
  obtain ⟨ta1, tb1, tc1, td1, te1⟩ := t1.out
  try clear ka0 kb0 kc0 ta0 tb0 tc0 td0 te0
  clear hb1
  rcases h1 with ⟨hno, rfl⟩ | ⟨htg, ga, ca, va, rfl, hA, hV, hvl⟩
  · have hv := Lib.hid (ri_no1 (i := i) (M := pM Q) (tg_no hno))
    clear hno
    go_wp2
    go_ret2
    exact riLB_no (ri_no0 hv.out) hv.out (by repeat (first | exact Below.refl _ _ | assumption | refine Below.drew ?_ | refine below_drewN ?_ _ | refine Below.alloc' ?_ _ | (refine Below.setCell ?_ (by first | omega | (simp; done) | (simp; omega) | exact Below.size (by assumption) | exact Nat.le_trans (Below.size (by assumption)) (by simp)) _) | (refine Below.via' ?_ (by assumption)) | (refine Below.alloc ?_ (by first | omega | (simp; done) | (simp; omega) | exact Below.size (by assumption) | exact Nat.le_trans (Below.size (by assumption)) (by simp)) _) | (refine Below.via ?_ (by assumption) (by first | omega | (simp; done) | (simp; omega) | exact Below.size (by assumption) | exact Nat.le_trans (Below.size (by assumption)) (by simp)))))
  have hpt := Lib.hid (tbS_ok htg.s htg.r)
  have hth := Lib.hid htg
  have hl30 := (ge_len htg.g).2
  have hl := lvL_len P l
  have hAh := Lib.hid hA
  have hPt := Lib.hid hV
  clear htg hA hV
  obtain ⟨W2, hW2⟩ : ∃ W2, W2 = w1.alloc (.cells #[.slice p P.length c, .int .i64 l, .slice x F.length c2, .slice z W.length c3, .int .i64 m, .slice ga (lvL P l).length ca, .slice (some ⟨va, 0, none⟩) (tbS S F).length (tbS S F).length] 91) := ⟨_, rfl⟩
  have hG := g7_of_wb (Wb.new w1 91 #[.slice p P.length c, .int .i64 l, .slice x F.length c2, .slice z W.length c3, .int .i64 m, .slice ga (lvL P l).length ca, .slice (some ⟨va, 0, none⟩) (tbS S F).length (tbS S F).length])
  rw [← hW2] at hG
  have BW : Below w1.heap.size w1 W2 := by rw [hW2]; exact Below.alloc' (Below.refl _ _) _
  have BW2 : Below w.heap.size w W2 := Below.via' B1 BW
  replace hG := Lib.hid hG
  replace hW2 := Lib.hid hW2
  obtain ⟨ka2, kb2, kc2⟩ := g1.out.below BW
  go_wp2_with fail
  rw [← hW2.out]
  refine (isSurveyFor_any _ _ _ _ _ _ P S Q _ hth.out.g hth.out.s (hPh.out.below BW2) (hSh.out.below BW2) (hQh.out.below BW2)).mono ?_
  rintro e w3 ⟨rfl, hb3⟩
  have B13 := Below.via' BW hb3
  have B3 := Below.via' B1 B13
  obtain ⟨j0, j1, j2, j3, j4, j5, j6, jl⟩ := hG.out.below hb3
  have hG3 := Lib.hid (hG.out.below hb3)
  clear ka2 kb2 kc2 hb3
  cases hsv : (dokB S (pM Q) && tyB P (pM Q))
  · have hv := Lib.hid (ri_no2 (l := l) (F := F) (W := W) (m := m) (i := i) hsv)
    go_wp2
    go_ret2
    exact riLB_no (ri_no0 hv.out) hv.out B3
  have hsv2 := hsv
  rw [Bool.and_eq_true] at hsv2
  have hdk := Lib.hid hsv2.1
  have hty := Lib.hid hsv2.2
  clear hsv2
  have hsvh := Lib.hid hsv
  have hQ40 : Q.length ≤ 40 := by have := dokB_len hdk.out; rwa [pM_len] at this
  clear hsv
  by_cases hi0 : i < 0
  · have hv := Lib.hid (ri_no3 (P := P) (S := S) (l := l) (F := F) (W := W) (m := m) (i := i) (M := pM Q) ((inB_no _ _ _).2 (by omega)))
    go_wp2
    go_ret2
    exact riLB_no (ri_no0 hv.out) hv.out B3
  go_wp2_with fail
  refine (gcount_any _ _ _ _ _ _ _ _ _ _ _ _ _ _ _ (lvL P l) (tbS S F) _ hpt.out (by omega) (hPt.out.below B13)).mono ?_
  rintro e w5 ⟨rfl, hb5⟩
  have B15 := Below.via' B13 hb5
  have B5 := Below.via' B1 B15
  have hG5 := Lib.hid (hG3.out.below hb5)
  clear j0 j1 j2 j3 j4 j5 j6 jl hb5
  by_cases hi1 : ((lvL P l).length : Int) * cnZ (tbS S F) ≤ i
  · have hv := Lib.hid (ri_no3 (P := P) (S := S) (l := l) (F := F) (W := W) (m := m) (i := i) (M := pM Q) ((inB_no _ _ _).2 (by unfold tcZ; omega)))
    go_wp2
    go_ret2
    exact riLB_no (ri_no0 hv.out) hv.out B5
  have hv := Lib.hid (ri_yes hth.out hsvh.out ((inB_iff i 0 (tcZ P S l F - 1)).2 ⟨by omega, by unfold tcZ; omega⟩))
  go_wp2
  go_loopw [14, 47] (fun u q wr => ∃ j : Nat, j ≤ Q.length ∧ q = .int .i64 j ∧ wr.ownsRow w5.heap.size 3 1 u (selK (riF P S l F W i (pM Q)) j).length (iC (selK (riF P S l F W i (pM Q)) j)) ∧ Below w5.heap.size w5 wr) (fun _ q _ => Q.length - (intOf q).toNat)
  case atStart => exact ⟨0, by omega, by go_num, World.ownsRow_nil _ _ _ _, Below.refl _ _⟩
  case round =>
    obtain ⟨j, hj, rfl, hown, hb⟩ := hrel
    have hownh := Lib.hid hown
    clear hown
    have hsl := sel_len (riF P S l F W i (pM Q)) j
    have Bw : Below w.heap.size w wr := Below.via' B5 hb
    by_cases hlt : j < Q.length
    · obtain ⟨bl, off, q, rfl, hbl, hQj, hc0, hc1, hc2⟩ := (hQh.out.2.2.below Bw).rec hlt
      obtain ⟨k, hka, hcl⟩ := sv_cl hdk.out hty.out hQj
      have hqr := Lib.hid ((hQh.out.2.1 q (List.mem_of_getElem? hQj)).2.2.below Bw)
      have hri := riF_at (P := P) (S := S) (l := l) (F := F) (W := W) (i := i) hQj
      have hclh := Lib.hid hcl
      obtain ⟨qa, qh, qx, qc, qL⟩ := q
      have hka : qa = (k : Int) := hka
      subst hka
      have hlt' : (j : Int) < (Q.length : Int) := by omega
      replace hQj := Lib.hid hQj
      replace hri : riF P S l F W i (pM Q) j = decide (clI P S l F W (k : Int) qL = i) := hri
      have hc2 : wr.cell? ⟨bl, off + j * 3 + 2, none⟩ = some (.slice qx qL.length qc) := hc2
      have BA : Below wr.heap.size wr (wr.alloc (.cells #[.int .i64 (k : Int), .int .i64 qh, .slice qx qL.length qc] 72)) := (by repeat (first | exact Below.refl _ _ | assumption | refine Below.drew ?_ | refine below_drewN ?_ _ | refine Below.alloc' ?_ _ | (refine Below.setCell ?_ (by first | omega | (simp; done) | (simp; omega) | exact Below.size (by assumption) | exact Nat.le_trans (Below.size (by assumption)) (by simp)) _) | (refine Below.via' ?_ (by assumption)) | (refine Below.alloc ?_ (by first | omega | (simp; done) | (simp; omega) | exact Below.size (by assumption) | exact Nat.le_trans (Below.size (by assumption)) (by simp)) _) | (refine Below.via ?_ (by assumption) (by first | omega | (simp; done) | (simp; omega) | exact Below.size (by assumption) | exact Nat.le_trans (Below.size (by assumption)) (by simp)))))
      obtain ⟨WA, hWA⟩ : ∃ WA, WA = wr.alloc (.cells #[.int .i64 (k : Int), .int .i64 qh, .slice qx qL.length qc] 72) := ⟨_, rfl⟩
      have hqn := RB.new wr k qh qx qL.length qc 72
      rw [← hWA] at BA hqn
      have hqn := Lib.hid hqn
      have hownA := Lib.hid (own_below hownh.out BA)
      have BwA : Below w.heap.size w WA := Below.via' Bw BA
      have B5A : Below w5.heap.size w5 WA := Below.via' hb BA
      replace hWA := Lib.hid hWA
      clear hcl
      have FF := And.intro (hG5.out.below B5A) hqn.out; rw [hWA.out] at FF; obtain ⟨⟨j0, j1, j2, j3, j4, j5, j6, jl⟩, ⟨ra, rb, rc, rd⟩⟩ := FF
      go_wp2_with fail
      rw [← hWA.out]
      refine (contrib_any _ _ _ _ _ _ _ _ _ _ _ _ P S l F W m k qh qL _ hth.out hclh.out (hPh.out.below BwA) (hFh.out.below BwA) (hWh.out.below BwA) (hAh.out.below (Below.via' B15 B5A)) (hPt.out.below (Below.via' B15 B5A)) (hqr.out.below BA)).mono ?_
      rintro e w2 ⟨rfl, hb2⟩
      have hb2' : Below w5.heap.size w5 w2 := Below.via' B5A hb2
      have ho2 := Lib.hid (own_below hownA.out hb2)
      have hs0 := hb2'.size
      by_cases hci : clI P S l F W (k : Int) qL = i
      · have ht : (clI P S l F W (k : Int) qL == i) = true := by rw [beq_iff_eq]; exact hci
        have hsel := Lib.hid (sel_yes (p := riF P S l F W i (pM Q)) (k := j) (by rw [hri]; exact decide_eq_true hci))
        replace hci := Lib.hid hci
        clear hri
        go_wp2_with (at_builtin; go_loud (refine wpList_append_rd _ rfl (.tmp 61) (.tmp 63) 22 rfl (w5.heap.size) 3 i0 (.int .i64 0) 1 8 Try.underlying22 hii hz0 hz1 hz2 rfl (by decide) _ (selK (riF P S l F W i (pM Q)) j).length (iC (selK (riF P S l F W i (pM Q)) j)) rfl ((ho2.out.alloc _)) _ 1 1 rfl (Nat.le_refl _) (by intro h; cases h) (iC [((j : Int) : Int)]) rfl (rd_oneE _ _ _ _ (by simp)) (iC_one _) (by unfold maxLen; omega) (by omega) (by simp; omega) ?_); intro v3 w3 hown3 hgrow3 hwhere3)
        obtain ⟨hb3, hl3⟩ := append_below hb2' (fun k hk => (ho2.out.lt k hk).1) hgrow3 hwhere3
        have hown3 := Lib.hid (own_snocE hown3 hsel.out rfl)
        clear hgrow3 hwhere3
        go_wp2
        go_roundw
        case rel => exact ⟨j + 1, by omega, by go_num, hown3.out, hb3⟩
        case measure => simp [intOf]; omega
      · have ht : (clI P S l F W (k : Int) qL == i) = false := by rw [beq_eq_false_iff_ne]; exact hci
        have hsel := Lib.hid (sel_no (p := riF P S l F W i (pM Q)) (k := j) (by rw [hri]; exact decide_eq_false hci))
        replace hci := Lib.hid hci
        clear hri
        go_wp2
        go_roundw
        case rel => exact ⟨j + 1, by omega, by go_num, by rw [hsel.out]; exact ho2.out, hb2'⟩
        case measure => simp [intOf]; omega
    · have hij : j = Q.length := by omega
      subst hij
      go_wp2
      go_ret2
      refine ⟨_, ret_vb hv.out.1.symm, ?_, Bw⟩
      rw [hv.out.2, pM_len]
      exact own_more hownh.out B5.size
end Go.Proofs.Ytgkaalonmkcclaa

namespace Go.Proofs.Ytgkaalonmkcclaa
open Go.RowKit

theorem snoc_rec {α : Type} {P : List α → Prop} (h0 : P []) (h1 : ∀ l a, P l → P (l ++ [a])) (l : List α) : P l := by
  have : ∀ n (l : List α), l.length = n → P l := by
    intro n
    induction n with
    | zero => intro l hl; rw [List.eq_nil_of_length_eq_zero hl]; exact h0
    | succ n ih =>
      intro l hl
      have hne : l ≠ [] := by intro e; rw [e] at hl; simp at hl
      rw [← List.dropLast_concat_getLast hne]
      exact h1 _ _ (ih _ (by rw [List.length_dropLast]; omega))
  exact this _ l rfl

/-- Where a number belongs in an increasing list. -/
def plK (L : List Int) (n : Int) : Nat := (L.takeWhile fun x => decide (x < n)).length
/-- An increasing list with one number more, unless it is there. -/
def putL (L : List Int) (n : Int) : List Int := if n ∈ L then L else L.take (plK L n) ++ n :: L.drop (plK L n)
def metL (G : List Int) : List Int := G.foldl putL []
abbrev Inc (L : List Int) : Prop := L.Pairwise (· < ·)

theorem plK_le (L : List Int) (n : Int) : plK L n ≤ L.length := by unfold plK; exact List.Sublist.length_le (List.takeWhile_sublist _)
theorem plK_of {L : List Int} {n : Int} {k : Nat} (hk : k ≤ L.length) (h1 : ∀ j v, j < k → L[j]? = some v → v < n) (h2 : k < L.length → ∀ v, L[k]? = some v → ¬ v < n) : plK L n = k := by
  unfold plK
  induction L generalizing k with
  | nil => simp at hk; simp [hk]
  | cons a r ih =>
    cases k with
    | zero =>
      have := h2 (by simp) a (by simp)
      simp [this]
    | succ k =>
      have ha := h1 0 a (by omega) (by simp)
      simp only [List.takeWhile_cons, decide_eq_true ha, if_true, List.length_cons]
      congr 1
      refine ih (by simp at hk; exact hk) (fun j v hj hv => h1 (j + 1) v (by omega) (by simpa using hv)) (fun hl v hv => h2 (by simp; exact hl) v (by simpa using hv))
theorem plK_lt {L : List Int} {n : Int} {j : Nat} {v : Int} (hj : j < plK L n) (hv : L[j]? = some v) : v < n := by
  unfold plK at hj
  have hp := (List.takeWhile_prefix (p := fun x : Int => decide (x < n)) (l := L))
  have e : (L.takeWhile fun x => decide (x < n))[j]? = some v := by
    obtain ⟨t, ht⟩ := hp
    rw [← ht, List.getElem?_append_left hj] at hv
    exact hv
  have hm := List.mem_of_getElem? e
  have key : ∀ M : List Int, v ∈ M.takeWhile (fun x => decide (x < n)) → v < n := by
    intro M
    induction M with
    | nil => intro h; cases h
    | cons a r ih =>
      intro h
      by_cases ha : a < n
      · simp only [List.takeWhile_cons, decide_eq_true ha, if_true, List.mem_cons] at h
        rcases h with rfl | h
        · exact ha
        · exact ih h
      · simp [ha] at h
  exact key L hm
theorem plK_ge {L : List Int} {n v : Int} {j : Nat} (hI : Inc L) (hj : plK L n ≤ j) (hv : L[j]? = some v) : n ≤ v := by
  have hlj := (List.getElem?_eq_some_iff.1 hv).1
  have hk : plK L n < L.length := by omega
  have h0 : ¬ L[plK L n] < n := by
    have : ∀ (M : List Int) (h : plK M n < M.length), ¬ M[plK M n] < n := by
      intro M
      induction M with
      | nil => intro h; simp at h
      | cons a r ih =>
        intro h
        unfold plK at h ⊢
        by_cases ha : a < n
        · have e : (List.takeWhile (fun x => decide (x < n)) (a :: r)) = a :: List.takeWhile (fun x => decide (x < n)) r := by simp [ha]
          simp only [e, List.length_cons] at h ⊢
          simp only [List.getElem_cons_succ]
          exact ih (by unfold plK; simpa using h)
        · have e : (List.takeWhile (fun x => decide (x < n)) (a :: r)) = [] := by simp [ha]
          simp only [e, List.length_nil, List.getElem_cons_zero]
          exact ha
    exact this L hk
  rcases Nat.lt_or_ge (plK L n) j with h | h
  · have := List.pairwise_iff_getElem.1 hI (plK L n) j hk hlj h
    have e := (List.getElem?_eq_some_iff.1 hv).2
    omega
  · have ej : j = plK L n := by omega
    subst ej
    have e := (List.getElem?_eq_some_iff.1 hv).2
    omega

theorem putL_mem {L : List Int} {n x : Int} : x ∈ putL L n ↔ x ∈ L ∨ x = n := by
  unfold putL
  split
  · rename_i h
    constructor
    · exact Or.inl
    · rintro (h' | rfl)
      · exact h'
      · exact h
  · rw [List.mem_append, List.mem_cons]
    constructor
    · rintro (h | rfl | h)
      · exact Or.inl (List.mem_of_mem_take h)
      · exact Or.inr rfl
      · exact Or.inl (List.mem_of_mem_drop h)
    · rintro (h | rfl)
      · rw [← List.take_append_drop (plK L n) L, List.mem_append] at h
        exact h.imp id Or.inr
      · exact Or.inr (Or.inl rfl)
theorem putL_len (L : List Int) (n : Int) : (putL L n).length = if n ∈ L then L.length else L.length + 1 := by
  unfold putL
  split
  · rfl
  · have := plK_le L n
    simp only [List.length_append, List.length_take, List.length_cons, List.length_drop]
    omega
theorem putL_inc {L : List Int} {n : Int} (hI : Inc L) : Inc (putL L n) := by
  unfold putL
  split
  · exact hI
  · rename_i hn
    have h1 : ∀ x ∈ L.take (plK L n), x < n := by
      intro x hx
      obtain ⟨j, hj, e⟩ := List.mem_take_iff_getElem.1 hx
      have hj1 : j < plK L n := by omega
      have hj2 : j < L.length := by omega
      exact plK_lt hj1 (by rw [← e]; exact List.getElem?_eq_getElem hj2)
    have h2 : ∀ x ∈ L.drop (plK L n), n < x := by
      intro x hx
      obtain ⟨j, hj, e⟩ := List.mem_drop_iff_getElem.1 hx
      have hat : L[plK L n + j]? = some x := by rw [List.getElem?_eq_getElem (by omega), e]
      have := plK_ge (n := n) hI (Nat.le_add_right _ _) hat
      have hne : x ≠ n := fun h => hn (h ▸ List.mem_of_mem_drop hx)
      omega
    show List.Pairwise _ _
    rw [List.pairwise_append, List.pairwise_cons]
    refine ⟨hI.sublist (List.take_sublist _ _), ⟨h2, hI.sublist (List.drop_sublist _ _)⟩, fun a ha b hb => ?_⟩
    rcases List.mem_cons.1 hb with rfl | hb
    · exact h1 a ha
    · have := h1 a ha
      have := h2 b hb
      omega
theorem metL_snoc (G : List Int) (x : Int) : metL (G ++ [x]) = putL (metL G) x := by unfold metL; rw [List.foldl_append]; rfl
theorem metL_inc (G : List Int) : Inc (metL G) := by
  induction G using snoc_rec with
  | h0 => exact List.Pairwise.nil
  | h1 G x ih => rw [metL_snoc]; exact putL_inc ih
theorem metL_mem (G : List Int) (x : Int) : x ∈ metL G ↔ x ∈ G := by
  induction G using snoc_rec with
  | h0 => rfl
  | h1 G y ih => rw [metL_snoc, putL_mem, ih, List.mem_append, List.mem_singleton]
theorem metL_len (G : List Int) : (metL G).length ≤ G.length := by
  induction G using snoc_rec with
  | h0 => exact Nat.le_refl _
  | h1 G y ih =>
    rw [metL_snoc, putL_len, List.length_append, List.length_singleton]
    split <;> omega

/-- The greatest number of an increasing list: its last. -/
def lsZ (L : List Int) : Int := match L.getLast? with | some v => v | none => 0
theorem lsZ_at {L : List Int} {v : Int} (h : L[L.length - 1]? = some v) : lsZ L = v := by
  unfold lsZ
  rw [List.getLast?_eq_getElem?, h]
theorem lsZ_top {L : List Int} (hI : Inc L) (hne : L ≠ []) : lsZ L ∈ L ∧ ∀ x ∈ L, x ≤ lsZ L := by
  have hl : 0 < L.length := List.length_pos_iff.2 hne
  have e : L[L.length - 1]? = some L[L.length - 1] := List.getElem?_eq_getElem (by omega)
  rw [lsZ_at e]
  refine ⟨List.getElem_mem _, fun x hx => ?_⟩
  obtain ⟨j, hj, rfl⟩ := List.getElem_of_mem hx
  rcases Nat.lt_or_ge j (L.length - 1) with h | h
  · have := List.pairwise_iff_getElem.1 hI j (L.length - 1) hj (by omega) h
    omega
  · have : j = L.length - 1 := by omega
    subst this
    omega
/-- The greatest number of a list. -/
def mxZ (G : List Int) : Int := lsZ (metL G)
theorem met_ne {G : List Int} (h : G ≠ []) : metL G ≠ [] := by
  obtain ⟨a, r, rfl⟩ := List.exists_cons_of_ne_nil h
  intro e
  have := (metL_mem (a :: r) a).2 (by simp)
  rw [e] at this
  cases this
theorem mx_uniq {G : List Int} {m : Int} (h1 : m ∈ G) (h2 : ∀ x ∈ G, x ≤ m) : mxZ G = m := by
  obtain ⟨k1, k2⟩ := lsZ_top (metL_inc G) (met_ne (List.ne_nil_of_mem h1))
  have a := h2 _ ((metL_mem G _).1 k1)
  have b := k2 _ ((metL_mem G _).2 h1)
  unfold mxZ
  omega
theorem mx_top {G : List Int} {x : Int} (h : x ∈ G) : x ≤ mxZ G := (lsZ_top (metL_inc G) (met_ne (List.ne_nil_of_mem h))).2 x ((metL_mem G x).2 h)

/-- The number of groups, or 0 where they are none. -/
def inR (G : List Int) (lo hi : Int) : Bool := G.all fun x => inB x lo hi
def gsB (G : List Int) : Bool := inR G 0 7 && decide (2 ≤ (metL G).length) && decide (mxZ G = (metL G).length - 1)
def gsZ (G : List Int) : Int := if gsB G then (metL G).length else 0
theorem gs_out {G : List Int} (h : inR G 0 7 = false) : gsB G = false := by unfold gsB; rw [h]; rfl
theorem gs_few {G : List Int} (h : (metL G).length < 2) : gsB G = false := by
  unfold gsB
  rw [decide_eq_false (by omega), Bool.and_false]
  rfl
theorem gs_gap {G : List Int} (h : mxZ G ≠ (metL G).length - 1) : gsB G = false := by
  unfold gsB
  rw [decide_eq_false h, Bool.and_false]
theorem gs_yes {G : List Int} (h1 : inR G 0 7 = true) (h2 : 2 ≤ (metL G).length) (h3 : mxZ G = (metL G).length - 1) : gsB G = true := by
  unfold gsB
  rw [h1, decide_eq_true h2, decide_eq_true h3]
  rfl
theorem gsB_get {G : List Int} (h : gsB G = true) : inR G 0 7 = true ∧ 2 ≤ (metL G).length ∧ mxZ G = (metL G).length - 1 := by
  unfold gsB at h
  simp only [Bool.and_eq_true, decide_eq_true_eq] at h
  exact ⟨h.1.1, h.1.2, h.2⟩
theorem gsZ_pos (G : List Int) : (0 < gsZ G) ↔ gsB G = true := by
  unfold gsZ
  cases h : gsB G with
  | false => simp
  | true =>
    have := (gsB_get h).2.1
    simp
    omega
theorem gsZ_bd (G : List Int) : 0 ≤ gsZ G ∧ gsZ G ≤ G.length := by
  unfold gsZ
  have := metL_len G
  split <;> omega
theorem inR_bad {G : List Int} {i : Nat} {v lo hi : Int} (h : G[i]? = some v) (hb : inB v lo hi = false) : inR G lo hi = false := by
  unfold inR
  rw [List.all_eq_false]
  exact ⟨v, List.mem_of_getElem? h, by rw [hb]; exact Bool.false_ne_true⟩
theorem inR_all {G : List Int} {lo hi : Int} (h : ∀ j, j < G.length → ∃ v, G[j]? = some v ∧ inB v lo hi = true) : inR G lo hi = true := by
  unfold inR
  rw [List.all_eq_true]
  intro x hx
  obtain ⟨j, hj, e⟩ := List.getElem_of_mem hx
  obtain ⟨v, hv, hb⟩ := h j hj
  rw [List.getElem?_eq_getElem hj, e] at hv
  cases hv
  exact hb
/-- A number that is not below the length: no grouping. -/
theorem gs_wide {G : List Int} {i : Nat} {v : Int} (h : G[i]? = some v) (hb : v < 0 ∨ (G.length : Int) ≤ v) : gsB G = false := by
  cases hg : gsB G with
  | false => rfl
  | true =>
    obtain ⟨h1, h2, h3⟩ := gsB_get hg
    have hm := List.mem_of_getElem? h
    have ht := mx_top hm
    have hl := metL_len G
    unfold inR at h1
    rw [List.all_eq_true] at h1
    have := (inB_iff _ _ _).1 (h1 v hm)
    omega
theorem inR_of {G : List Int} (hl : G.length ≤ 8) (h : ∀ j, j < G.length → ∃ v, G[j]? = some v ∧ 0 ≤ v ∧ v < (G.length : Int)) : inR G 0 7 = true :=
  inR_all fun j hj => by
    obtain ⟨v, hv, h0, h1⟩ := h j hj
    exact ⟨v, hv, (inB_iff _ _ _).2 ⟨h0, by omega⟩⟩

/-- Is it a grouping for a schema? How many groups has it? -/
def okG (S : List (ByteArray × Int)) (v : Int) (G : List Int) : Bool := decide (0 ≤ v) && (match S[v.toNat]? with | some p => decide ((G.length : Int) = p.2) | none => false)
def gvB (S : List (ByteArray × Int)) (v : Int) (G : List Int) : Bool := okG S v G && gsB G
def gvZ (S : List (ByteArray × Int)) (v : Int) (G : List Int) : Int := if gvB S v G then (metL G).length else 0
theorem okG_neg {S : List (ByteArray × Int)} {v : Int} {G : List Int} (h : v < 0) : okG S v G = false := by unfold okG; rw [decide_eq_false (by omega)]; rfl
theorem okG_far {S : List (ByteArray × Int)} {v : Int} {G : List Int} (h : (S.length : Int) ≤ v) : okG S v G = false := by
  unfold okG
  rw [List.getElem?_eq_none (by omega), Bool.and_false]
theorem okG_at {S : List (ByteArray × Int)} {k : Nat} {nm : ByteArray} {lv : Int} {G : List Int} (h : S[k]? = some (nm, lv)) : okG S (k : Int) G = decide ((G.length : Int) = lv) := by
  unfold okG
  rw [Int.toNat_natCast, h, decide_eq_true (by omega)]
  rfl
theorem gv_no {S : List (ByteArray × Int)} {v : Int} {G : List Int} (h : okG S v G = false) : gvB S v G = false := by unfold gvB; rw [h]; rfl
theorem gv_of {S : List (ByteArray × Int)} {v : Int} {G : List Int} (h : okG S v G = true) : gvB S v G = gsB G := by unfold gvB; rw [h]; rfl
theorem gvZ_no {S : List (ByteArray × Int)} {v : Int} {G : List Int} (h : gvB S v G = false) : gvZ S v G = 0 := by unfold gvZ; rw [h]; rfl
theorem gvZ_yes {S : List (ByteArray × Int)} {v : Int} {G : List Int} (h : gvB S v G = true) : gvZ S v G = (metL G).length := by unfold gvZ; rw [h]; rfl
theorem gvB_get {S : List (ByteArray × Int)} {v : Int} {G : List Int} (h : gvB S v G = true) : ∃ (k : Nat) (nm : ByteArray) (lv : Int), v = (k : Int) ∧ S[k]? = some (nm, lv) ∧ (G.length : Int) = lv ∧ gsB G = true := by
  unfold gvB at h
  simp only [Bool.and_eq_true] at h
  obtain ⟨h1, h2⟩ := h
  by_cases h0 : v < 0
  · rw [okG_neg h0] at h1; cases h1
  · obtain ⟨k, rfl⟩ := Int.eq_ofNat_of_zero_le (show 0 ≤ v by omega)
    cases hk : S[k]? with
    | none =>
      rw [okG_far (by have := List.getElem?_eq_none_iff.1 hk; omega)] at h1
      cases h1
    | some p =>
      obtain ⟨nm, lv⟩ := p
      rw [okG_at hk, decide_eq_true_eq] at h1
      exact ⟨k, nm, lv, rfl, hk, h1, h2⟩
theorem gvZ_pos (S : List (ByteArray × Int)) (v : Int) (G : List Int) : decide (0 < gvZ S v G) = gvB S v G := by
  cases h : gvB S v G with
  | false => rw [gvZ_no h]; rfl
  | true =>
    obtain ⟨_, _, _, _, _, _, hg⟩ := gvB_get h
    have := (gsB_get hg).2.1
    rw [gvZ_yes h, decide_eq_true_eq]
    omega
end Go.Proofs.Ytgkaalonmkcclaa
