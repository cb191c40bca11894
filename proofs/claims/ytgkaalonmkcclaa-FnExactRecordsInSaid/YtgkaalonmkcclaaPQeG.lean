import Derived.Test.YtgkaalonmkcclaaPQeF
import Derived.Test.YtgkaalonmkcclaaPQeD
namespace Go.Proofs.Ytgkaalonmkcclaa
open Go.RowKit
set_option maxRecDepth 100000

/-- What CellIndex answers. -/
def tciB (P : List Int) (S : List (ByteArray × Int)) (l : Int) (F W : List Int) (m a : Int) (V : List Int) : Bool := tgB P S l F W m && ((lvL P l).contains a && fitB (tbS S F) V)
def tciN (P : List Int) (S : List (ByteArray × Int)) (l : Int) (F W : List Int) (m a : Int) (V : List Int) : Int := if tciB P S l F W m a V then ceZ P S l F a V else 0
section
variable {P : List Int} {S : List (ByteArray × Int)} {l : Int} {F W : List Int} {m a : Int} {V : List Int}
theorem tci_no1 (h : tgB P S l F W m = false) : tciN P S l F W m a V = 0 ∧ tciB P S l F W m a V = false := by
  have e : tciB P S l F W m a V = false := by unfold tciB; rw [h]; rfl
  exact ⟨if_f e, e⟩
theorem tci_no2 (h : (lvL P l).contains a = false) : tciN P S l F W m a V = 0 ∧ tciB P S l F W m a V = false := by
  have e : tciB P S l F W m a V = false := by unfold tciB; rw [h, Bool.false_and, Bool.and_false]
  exact ⟨if_f e, e⟩
theorem tci_no3 (h : fitB (tbS S F) V = false) : tciN P S l F W m a V = 0 ∧ tciB P S l F W m a V = false := by
  have e : tciB P S l F W m a V = false := by unfold tciB; rw [h, Bool.and_false, Bool.and_false]
  exact ⟨if_f e, e⟩
theorem tci_yes (h : tgB P S l F W m = true) (h2 : (lvL P l).contains a = true) (h3 : fitB (tbS S F) V = true) : tciN P S l F W m a V = ceZ P S l F a V ∧ tciB P S l F W m a V = true := by
  have e : tciB P S l F W m a V = true := by unfold tciB; rw [h, h2, h3]; rfl
  exact ⟨if_t e, e⟩
end
theorem fdI_lt {L : List Int} {a : Int} (h : L.contains a = false) : fdI L a < 0 := by
  rw [fdI_miss (fun k => by rw [← List.contains_iff_mem, h] at k; cases k)]
  omega
theorem fdI_ge {L : List Int} {a : Int} (h : L.contains a = true) : 0 ≤ fdI L a := fdI_neg.2 (List.contains_iff_mem.1 h)

set_option maxHeartbeats 4000000 in
theorem gindex_any (p x z ga va v : Option Addr) (c c2 c3 ca cv c4 : Nat) (P : List Int) (S : List (ByteArray × Int)) (l : Int) (F W : List Int) (m a : Int) (V : List Int) (w : World) (htg : TgP P S l F W m) (ha : (lvL P l).contains a = true) (hf : fitB (tbS S F) V = true) (hA : IIn w ga (lvL P l)) (hP : Rd w va (vC (tbS S F))) (hV : IIn w v V) :
    Calls Try.prog 78 #[.agg #[.slice p P.length c, .int .i64 l, .slice x F.length c2, .slice z W.length c3, .int .i64 m, .slice ga (lvL P l).length ca, .slice va (tbS S F).length cv], .int .i64 a, .slice v V.length c4] w fun e w' => e = .returned (.int .i64 (ceZ P S l F a V)) ∧ Below w.heap.size w w' := by
  have hb := ce_bd htg (List.contains_iff_mem.1 ha) hf
  have hc := htg.c
  have q1 : IntKind.i64.wrap (fdI (lvL P l) a * cnZ (tbS S F)) = fdI (lvL P l) a * cnZ (tbS S F) := IntWalk.i64_in _ (by omega)
  have q2 : IntKind.i64.wrap (fdI (lvL P l) a * cnZ (tbS S F) + ixZ (tbS S F) V) = fdI (lvL P l) a * cnZ (tbS S F) + ixZ (tbS S F) V := IntWalk.i64_in _ (by unfold ceZ at hb; omega)
  have hpt := Lib.hid (tbS_ok htg.s htg.r)
  have hfh := Lib.hid hf
  have hAh := Lib.hid hA
  have hPh := Lib.hid hP
  have hVh := Lib.hid hV
  clear htg ha hf hA hP hV hb hc
  go_enter Try.func78, Try.ntmps78
  go_wp2
  go_region_held3 (fun w' => Below ((w.alloc (.cells #[.slice p P.length c, .int .i64 l, .slice x F.length c2, .slice z W.length c3, .int .i64 m, .slice ga (lvL P l).length ca, .slice va (tbS S F).length cv] 91))).heap.size ((w.alloc (.cells #[.slice p P.length c, .int .i64 l, .slice x F.length c2, .slice z W.length c3, .int .i64 m, .slice ga (lvL P l).length ca, .slice va (tbS S F).length cv] 91))) w' ∧ (∀ b o, b < ((w.alloc (.cells #[.slice p P.length c, .int .i64 l, .slice x F.length c2, .slice z W.length c3, .int .i64 m, .slice ga (lvL P l).length ca, .slice va (tbS S F).length cv] 91))).heap.size → w'.cell? ⟨b, o, none⟩ = ((w.alloc (.cells #[.slice p P.length c, .int .i64 l, .slice x F.length c2, .slice z W.length c3, .int .i64 m, .slice ga (lvL P l).length ca, .slice va (tbS S F).length cv] 91))).cell? ⟨b, o, none⟩)) (first | exact keep_of (Below.refl _ _) | ((try go_split_ands); exact keep_of (by repeat (first | exact Below.refl _ _ | assumption | refine Below.drew ?_ | refine below_drewN ?_ _ | refine Below.alloc' ?_ _ | (refine Below.setCell ?_ (by first | omega | (simp; done) | (simp; omega) | exact Below.size (by assumption) | exact Nat.le_trans (Below.size (by assumption)) (by simp)) _) | (refine Below.via' ?_ (by assumption)) | (refine Below.alloc ?_ (by first | omega | (simp; done) | (simp; omega) | exact Below.size (by assumption) | exact Nat.le_trans (Below.size (by assumption)) (by simp)) _) | (refine Below.via ?_ (by assumption) (by first | omega | (simp; done) | (simp; omega) | exact Below.size (by assumption) | exact Nat.le_trans (Below.size (by assumption)) (by simp))))))) (first | (go_at_call 112; refine (indexAt_any _ _ (lvL P l) a _ (hAh.out.below (by exact (by repeat (first | exact Below.refl _ _ | assumption | refine Below.drew ?_ | refine below_drewN ?_ _ | refine Below.alloc' ?_ _ | (refine Below.setCell ?_ (by first | omega | (simp; done) | (simp; omega) | exact Below.size (by assumption) | exact Nat.le_trans (Below.size (by assumption)) (by simp)) _) | (refine Below.via' ?_ (by assumption)) | (refine Below.alloc ?_ (by first | omega | (simp; done) | (simp; omega) | exact Below.size (by assumption) | exact Nat.le_trans (Below.size (by assumption)) (by simp)) _) | (refine Below.via ?_ (by assumption) (by first | omega | (simp; done) | (simp; omega) | exact Below.size (by assumption) | exact Nat.le_trans (Below.size (by assumption)) (by simp)))))))).mono ?_; rintro e w1 ⟨rfl, rfl⟩) | (go_at_call 110; refine (countComb_p _ _ (tbS S F) _ hpt.out (hPh.out.below (by exact (by repeat (first | exact Below.refl _ _ | assumption | refine Below.drew ?_ | refine below_drewN ?_ _ | refine Below.alloc' ?_ _ | (refine Below.setCell ?_ (by first | omega | (simp; done) | (simp; omega) | exact Below.size (by assumption) | exact Nat.le_trans (Below.size (by assumption)) (by simp)) _) | (refine Below.via' ?_ (by assumption)) | (refine Below.alloc ?_ (by first | omega | (simp; done) | (simp; omega) | exact Below.size (by assumption) | exact Nat.le_trans (Below.size (by assumption)) (by simp)) _) | (refine Below.via ?_ (by assumption) (by first | omega | (simp; done) | (simp; omega) | exact Below.size (by assumption) | exact Nat.le_trans (Below.size (by assumption)) (by simp)))))))).mono ?_; rintro e w2 ⟨rfl, hb2⟩) | (go_at_call 113; refine (cix_p _ _ _ _ (tbS S F) V _ hpt.out hfh.out (hPh.out.below (by exact (by repeat (first | exact Below.refl _ _ | assumption | refine Below.drew ?_ | refine below_drewN ?_ _ | refine Below.alloc' ?_ _ | (refine Below.setCell ?_ (by first | omega | (simp; done) | (simp; omega) | exact Below.size (by assumption) | exact Nat.le_trans (Below.size (by assumption)) (by simp)) _) | (refine Below.via' ?_ (by assumption)) | (refine Below.alloc ?_ (by first | omega | (simp; done) | (simp; omega) | exact Below.size (by assumption) | exact Nat.le_trans (Below.size (by assumption)) (by simp)) _) | (refine Below.via ?_ (by assumption) (by first | omega | (simp; done) | (simp; omega) | exact Below.size (by assumption) | exact Nat.le_trans (Below.size (by assumption)) (by simp))))))) (hVh.out.below (by exact (by repeat (first | exact Below.refl _ _ | assumption | refine Below.drew ?_ | refine below_drewN ?_ _ | refine Below.alloc' ?_ _ | (refine Below.setCell ?_ (by first | omega | (simp; done) | (simp; omega) | exact Below.size (by assumption) | exact Nat.le_trans (Below.size (by assumption)) (by simp)) _) | (refine Below.via' ?_ (by assumption)) | (refine Below.alloc ?_ (by first | omega | (simp; done) | (simp; omega) | exact Below.size (by assumption) | exact Nat.le_trans (Below.size (by assumption)) (by simp)) _) | (refine Below.via ?_ (by assumption) (by first | omega | (simp; done) | (simp; omega) | exact Below.size (by assumption) | exact Nat.le_trans (Below.size (by assumption)) (by simp)))))))).mono ?_; rintro e w3 ⟨rfl, hb3⟩)); rename_i hH; obtain ⟨hb4, hcl4⟩ := hH; have hz4 := hb4.size; (try simp at hz4); (try (have hly4 := Nat.lt_of_succ_le hz4)); (try (have hlx4 := Nat.lt_of_succ_lt hly4)); (try (have hlw4 := Nat.lt_of_succ_lt hlx4)); (try (have hle4 := Nat.le_of_lt hly4)); (try (have hya4 : w.heap.size < w4.heap.size := by omega)); (try (have hyb4 : w.heap.size + 1 < w4.heap.size := by omega)); (try (have hyc4 : w.heap.size + 1 + 1 < w4.heap.size := by omega)); (try (have hyd4 : wa.heap.size < w4.heap.size := by omega))
  go_wp2
  go_ret
  exact ⟨rfl, (by repeat (first | exact Below.refl _ _ | assumption | refine Below.drew ?_ | refine below_drewN ?_ _ | refine Below.alloc' ?_ _ | (refine Below.setCell ?_ (by first | omega | (simp; done) | (simp; omega) | exact Below.size (by assumption) | exact Nat.le_trans (Below.size (by assumption)) (by simp)) _) | (refine Below.via' ?_ (by assumption)) | (refine Below.alloc ?_ (by first | omega | (simp; done) | (simp; omega) | exact Below.size (by assumption) | exact Nat.le_trans (Below.size (by assumption)) (by simp)) _) | (refine Below.via ?_ (by assumption) (by first | omega | (simp; done) | (simp; omega) | exact Below.size (by assumption) | exact Nat.le_trans (Below.size (by assumption)) (by simp)))))⟩

set_option maxHeartbeats 8000000 in
theorem iCX_x (p y x z v : Option Addr) (c c1 c2 c3 c4 : Nat) (P : List Int) (S : List (ByteArray × Int)) (l : Int) (F W : List Int) (m a : Int) (V : List Int) (w : World) (hP : IIn w p P) (hS : SIn w y c1 S) (hT : TIn w x z F W) (hV : IIn w v V) :
    Calls Try.prog 28 #[.agg #[.slice p P.length c], .slice y S.length c1, .agg #[.int .i64 l, .slice x F.length c2, .slice z W.length c3, .int .i64 m], .int .i64 a, .slice v V.length c4] w fun e w' => e = .returned (.tuple #[.int .i64 (tciN P S l F W m a V), .bool (tciB P S l F W m a V)]) ∧ Below w.heap.size w w' := by
  have hVh := Lib.hid hV
  clear hV
  have hPh := Lib.hid hP
  have hSh := Lib.hid hS
  have hFh := Lib.hid hT.1
  have hWh := Lib.hid hT.2
  clear hP hS hT
  have p1 := Lib.hid (QB.new w p P.length c 33)
  have p2 := Lib.hid (TQ.new (w.alloc (.cells #[.slice p P.length c] 33)) l x F.length c2 z W.length c3 m 37)
  obtain ⟨w0, hw0⟩ : ∃ w0, w0 = (w.alloc (.cells #[.slice p P.length c] 33)).alloc (.cells #[.int .i64 l, .slice x F.length c2, .slice z W.length c3, .int .i64 m] 37) := ⟨_, rfl⟩
  have B0 : Below w.heap.size w w0 := by rw [hw0]; exact (by repeat (first | exact Below.refl _ _ | assumption | refine Below.drew ?_ | refine below_drewN ?_ _ | refine Below.alloc' ?_ _ | (refine Below.setCell ?_ (by first | omega | (simp; done) | (simp; omega) | exact Below.size (by assumption) | exact Nat.le_trans (Below.size (by assumption)) (by simp)) _) | (refine Below.via' ?_ (by assumption)) | (refine Below.alloc ?_ (by first | omega | (simp; done) | (simp; omega) | exact Below.size (by assumption) | exact Nat.le_trans (Below.size (by assumption)) (by simp)) _) | (refine Below.via ?_ (by assumption) (by first | omega | (simp; done) | (simp; omega) | exact Below.size (by assumption) | exact Nat.le_trans (Below.size (by assumption)) (by simp)))))
  have g0 : Hid (QB w0 w.heap.size p P.length c) := by
    rw [hw0]
    exact p1.out.below (show Below (w.alloc (.cells #[.slice p P.length c] 33)).heap.size (w.alloc (.cells #[.slice p P.length c] 33)) _ from (by repeat (first | exact Below.refl _ _ | assumption | refine Below.drew ?_ | refine below_drewN ?_ _ | refine Below.alloc' ?_ _ | (refine Below.setCell ?_ (by first | omega | (simp; done) | (simp; omega) | exact Below.size (by assumption) | exact Nat.le_trans (Below.size (by assumption)) (by simp)) _) | (refine Below.via' ?_ (by assumption)) | (refine Below.alloc ?_ (by first | omega | (simp; done) | (simp; omega) | exact Below.size (by assumption) | exact Nat.le_trans (Below.size (by assumption)) (by simp)) _) | (refine Below.via ?_ (by assumption) (by first | omega | (simp; done) | (simp; omega) | exact Below.size (by assumption) | exact Nat.le_trans (Below.size (by assumption)) (by simp))))))
  have t0 : Hid (TQ w0 (w.heap.size + 1) l x F.length c2 z W.length c3 m) := by
    have h0 := p2.out
    rw [World.size_alloc, ← hw0] at h0
    exact h0
  have z0 : w0.heap.size = w.heap.size + 1 + 1 := by rw [hw0]; simp
  clear p1 p2
  go_enter Try.func28, Try.ntmps28
  go_wp2_with fail
  rw [← hw0]
  replace hw0 := Lib.hid hw0
  replace z0 := Lib.hid z0
  refine (gridOf_any p y x z _ _ _ _ P S l m F W _ (hPh.out.below B0) (hSh.out.below B0) ⟨hFh.out.below B0, hWh.out.below B0⟩).mono ?_
  rintro e w1 ⟨hb1, h1⟩
  have B1 : Below w.heap.size w w1 := Below.via' B0 hb1
  have g1 := Lib.hid (g0.out.below hb1)
  have t1 := Lib.hid (t0.out.below hb1)
  obtain ⟨ka1, kb1, kc1⟩ := g1.out
  obtain ⟨ta1, tb1, tc1, td1, te1⟩ := t1.out
  try clear ka0 kb0 kc0 ta0 tb0 tc0 td0 te0
  clear hb1
  rcases h1 with ⟨hno, rfl⟩ | ⟨htg, ga, ca, va, rfl, hA, hV, hvl⟩
  · have hv := Lib.hid (tci_no1 (a := a) (V := V) (tg_no hno))
    clear hno
    go_wp2
    go_ret2
    exact ⟨ret_in hv.out.1.symm hv.out.2.symm, (by repeat (first | exact Below.refl _ _ | assumption | refine Below.drew ?_ | refine below_drewN ?_ _ | refine Below.alloc' ?_ _ | (refine Below.setCell ?_ (by first | omega | (simp; done) | (simp; omega) | exact Below.size (by assumption) | exact Nat.le_trans (Below.size (by assumption)) (by simp)) _) | (refine Below.via' ?_ (by assumption)) | (refine Below.alloc ?_ (by first | omega | (simp; done) | (simp; omega) | exact Below.size (by assumption) | exact Nat.le_trans (Below.size (by assumption)) (by simp)) _) | (refine Below.via ?_ (by assumption) (by first | omega | (simp; done) | (simp; omega) | exact Below.size (by assumption) | exact Nat.le_trans (Below.size (by assumption)) (by simp)))))⟩
  have hpt := Lib.hid (tbS_ok htg.s htg.r)
  have hth := Lib.hid htg
  have hAh := Lib.hid hA
  have hPt := Lib.hid hV
  clear htg hA hV
  obtain ⟨W2, hW2⟩ : ∃ W2, W2 = w1.alloc (.cells #[.slice p P.length c, .int .i64 l, .slice x F.length c2, .slice z W.length c3, .int .i64 m, .slice ga (lvL P l).length ca, .slice (some ⟨va, 0, none⟩) (tbS S F).length (tbS S F).length] 91) := ⟨_, rfl⟩
  have hG := g7_of_wb (Wb.new w1 91 #[.slice p P.length c, .int .i64 l, .slice x F.length c2, .slice z W.length c3, .int .i64 m, .slice ga (lvL P l).length ca, .slice (some ⟨va, 0, none⟩) (tbS S F).length (tbS S F).length])
  rw [← hW2] at hG
  have BW : Below w1.heap.size w1 W2 := by rw [hW2]; exact Below.alloc' (Below.refl _ _) _
  replace hG := Lib.hid hG
  replace hW2 := Lib.hid hW2
  cases ha : (lvL P l).contains a
  · have hv := Lib.hid (tci_no2 (S := S) (F := F) (W := W) (m := m) (V := V) ha)
    go_wp2_with fail
    rw [← hW2.out]
    refine (contains_any _ _ (lvL P l) a _ (hAh.out.below BW)).mono ?_
    rintro e w2 ⟨rfl, rfl⟩
    rw [ha]
    go_wp2
    go_ret2
    exact ⟨ret_in hv.out.1.symm hv.out.2.symm, Below.via' B1 BW⟩
  replace ha := Lib.hid ha
  go_wp2_with fail
  rw [← hW2.out]
  refine (contains_any _ _ (lvL P l) a _ (hAh.out.below BW)).mono ?_
  rintro e w2 ⟨rfl, rfl⟩
  rw [ha.out]
  obtain ⟨i0, i1, i2, i3, i4, i5, i6, il⟩ := hG.out
  go_wp2_with fail
  refine (areValues_p _ _ _ _ (tbS S F) V _ hpt.out (hPt.out.below BW) (hVh.out.below (Below.via' B1 BW))).mono ?_
  rintro e w3 ⟨rfl, hb3⟩
  have B3 := Below.via' (Below.via' B1 BW) hb3
  have hB13 := Below.via' BW hb3
  obtain ⟨j0, j1, j2, j3, j4, j5, j6, jl⟩ := hG.out.below hb3
  clear i0 i1 i2 i3 i4 i5 i6 il hb3
  cases hf : fitB (tbS S F) V
  · have hv := Lib.hid (tci_no3 (P := P) (l := l) (W := W) (m := m) (a := a) hf)
    go_wp2
    go_ret2
    exact ⟨ret_in hv.out.1.symm hv.out.2.symm, B3⟩
  have hv := Lib.hid (tci_yes (m := m) (tg_iff.2 hth.out) ha.out hf)
  replace hf := Lib.hid hf
  go_wp2_with fail
  refine (gindex_any _ _ _ _ _ _ _ _ _ _ _ _ P S l F W m a V _ hth.out ha.out hf.out (hAh.out.below hB13) (hPt.out.below hB13) (hVh.out.below B3)).mono ?_
  rintro e w4 ⟨rfl, hb4⟩
  go_wp2
  go_ret2
  exact ⟨ret_in hv.out.1.symm hv.out.2.symm, Below.via' B3 hb4⟩
set_option maxHeartbeats 8000000 in
theorem sCX_x (p y x z v : Option Addr) (c c1 c2 c3 c4 : Nat) (P : List Int) (S : List (ByteArray × Int)) (l : Int) (F W : List Int) (m a : Int) (V : List Int) (w : World) (hP : IIn w p P) (hS : SIn w y c1 S) (hT : TIn w x z F W) (hV : IIn w v V) :
    Calls Try.prog 26 #[.agg #[.slice p P.length c], .slice y S.length c1, .agg #[.int .i64 l, .slice x F.length c2, .slice z W.length c3, .int .i64 m], .int .i64 a, .slice v V.length c4] w fun e w' => e = .returned (.tuple #[.int .i64 (tciN P S l F W m a V), .bool (tciB P S l F W m a V)]) ∧ Below w.heap.size w w' := by
  have hVh := Lib.hid hV
  clear hV
  have hPh := Lib.hid hP
  have hSh := Lib.hid hS
  have hFh := Lib.hid hT.1
  have hWh := Lib.hid hT.2
  clear hP hS hT
  have p1 := Lib.hid (QB.new w p P.length c 33)
  have p2 := Lib.hid (TQ.new (w.alloc (.cells #[.slice p P.length c] 33)) l x F.length c2 z W.length c3 m 37)
  obtain ⟨w0, hw0⟩ : ∃ w0, w0 = (w.alloc (.cells #[.slice p P.length c] 33)).alloc (.cells #[.int .i64 l, .slice x F.length c2, .slice z W.length c3, .int .i64 m] 37) := ⟨_, rfl⟩
  have B0 : Below w.heap.size w w0 := by rw [hw0]; exact (by repeat (first | exact Below.refl _ _ | assumption | refine Below.drew ?_ | refine below_drewN ?_ _ | refine Below.alloc' ?_ _ | (refine Below.setCell ?_ (by first | omega | (simp; done) | (simp; omega) | exact Below.size (by assumption) | exact Nat.le_trans (Below.size (by assumption)) (by simp)) _) | (refine Below.via' ?_ (by assumption)) | (refine Below.alloc ?_ (by first | omega | (simp; done) | (simp; omega) | exact Below.size (by assumption) | exact Nat.le_trans (Below.size (by assumption)) (by simp)) _) | (refine Below.via ?_ (by assumption) (by first | omega | (simp; done) | (simp; omega) | exact Below.size (by assumption) | exact Nat.le_trans (Below.size (by assumption)) (by simp)))))
  have g0 : Hid (QB w0 w.heap.size p P.length c) := by
    rw [hw0]
    exact p1.out.below (show Below (w.alloc (.cells #[.slice p P.length c] 33)).heap.size (w.alloc (.cells #[.slice p P.length c] 33)) _ from (by repeat (first | exact Below.refl _ _ | assumption | refine Below.drew ?_ | refine below_drewN ?_ _ | refine Below.alloc' ?_ _ | (refine Below.setCell ?_ (by first | omega | (simp; done) | (simp; omega) | exact Below.size (by assumption) | exact Nat.le_trans (Below.size (by assumption)) (by simp)) _) | (refine Below.via' ?_ (by assumption)) | (refine Below.alloc ?_ (by first | omega | (simp; done) | (simp; omega) | exact Below.size (by assumption) | exact Nat.le_trans (Below.size (by assumption)) (by simp)) _) | (refine Below.via ?_ (by assumption) (by first | omega | (simp; done) | (simp; omega) | exact Below.size (by assumption) | exact Nat.le_trans (Below.size (by assumption)) (by simp))))))
  have t0 : Hid (TQ w0 (w.heap.size + 1) l x F.length c2 z W.length c3 m) := by
    have h0 := p2.out
    rw [World.size_alloc, ← hw0] at h0
    exact h0
  have z0 : w0.heap.size = w.heap.size + 1 + 1 := by rw [hw0]; simp
  clear p1 p2
  go_enter Try.func26, Try.ntmps26
  go_wp2_with fail
  rw [← hw0]
  replace hw0 := Lib.hid hw0
  replace z0 := Lib.hid z0
  refine (uGood_any p y x z _ _ _ _ P S l m F W _ (hPh.out.below B0) (hSh.out.below B0) ⟨hFh.out.below B0, hWh.out.below B0⟩).mono ?_
  rintro e w1 ⟨rfl, hb1⟩
  have B1 : Below w.heap.size w w1 := Below.via' B0 hb1
  have g1 := Lib.hid (g0.out.below hb1)
  have t1 := Lib.hid (t0.out.below hb1)
  obtain ⟨ka1, kb1, kc1⟩ := g1.out
  obtain ⟨ta1, tb1, tc1, td1, te1⟩ := t1.out
  try clear ka0 kb0 kc0 ta0 tb0 tc0 td0 te0
  clear hb1
  cases htg : tgB P S l F W m
  · have hv := Lib.hid (tci_no1 (a := a) (V := V) htg)
    go_wp2
    go_ret2
    exact ⟨ret_in hv.out.1.symm hv.out.2.symm, B1⟩
  have htp := tg_iff.1 htg
  have hgh := Lib.hid htp.g
  have hip := Lib.hid (inP_of htp.s htp.r rfl)
  have hpt := Lib.hid (tbS_ok htp.s htp.r)
  have hl30 := (ge_len htp.g).2
  have htph := Lib.hid htp
  replace htg := Lib.hid htg
  clear htp
  go_wp2_with fail
  refine (sPart_any _ _ _ _ S F _ hip.out (hSh.out.rd.below B1) (hFh.out.2.2.below B1)).mono ?_
  rintro e w2 ⟨u2, rfl, ho2, hb2⟩
  obtain ⟨x2, n2, rfl, -, -⟩ := (OwR.of ho2).form
  have hr2 := Lib.hid (Rd.of_own ho2)
  clear ho2
  have B2 : Below w.heap.size w w2 := Below.via' B1 hb2
  have g2 := Lib.hid (g1.out.below hb2)
  have t2 := Lib.hid (t1.out.below hb2)
  obtain ⟨ka2, kb2, kc2⟩ := g2.out
  obtain ⟨ta2, tb2, tc2, td2, te2⟩ := t2.out
  try clear ka1 kb1 kc1 ta1 tb1 tc1 td1 te1
  clear hb2
  go_wp2_with fail
  refine (sFits_p _ _ _ _ (tbS S F) V _ hpt.out hr2.out (hVh.out.below B2)).mono ?_
  rintro e w3 ⟨rfl, hb3⟩
  have B3 : Below w.heap.size w w3 := Below.via' B2 hb3
  have g3 := Lib.hid (g2.out.below hb3)
  have t3 := Lib.hid (t2.out.below hb3)
  obtain ⟨ka3, kb3, kc3⟩ := g3.out
  obtain ⟨ta3, tb3, tc3, td3, te3⟩ := t3.out
  try clear ka2 kb2 kc2 ta2 tb2 tc2 td2 te2
  clear hb3
  cases hf : fitB (tbS S F) V
  · have hv := Lib.hid (tci_no3 (P := P) (l := l) (W := W) (m := m) (a := a) hf)
    go_wp2
    go_ret2
    exact ⟨ret_in hv.out.1.symm hv.out.2.symm, B3⟩
  replace hf := Lib.hid hf
  go_wp2_with fail
  refine (gLevel_any _ _ P l _ hgh.out (hPh.out.below B3)).mono ?_
  rintro e w4 ⟨v4, rfl, ho4, hb4⟩
  obtain ⟨x4, n4, rfl, -, -⟩ := (OwR.of ho4).form
  have hi4 : Hid (IIn w4 x4 (lvL P l)) := iin_sel (by omega) (Rd.of_own ho4)
  clear ho4
  have B4 : Below w.heap.size w w4 := Below.via' B3 hb4
  have g4 := Lib.hid (g3.out.below hb4)
  have t4 := Lib.hid (t3.out.below hb4)
  obtain ⟨ka4, kb4, kc4⟩ := g4.out
  obtain ⟨ta4, tb4, tc4, td4, te4⟩ := t4.out
  try clear ka3 kb3 kc3 ta3 tb3 tc3 td3 te3
  clear hb4
  cases ha : (lvL P l).contains a
  · have hv := Lib.hid (tci_no2 (S := S) (F := F) (W := W) (m := m) (V := V) ha)
    have hlt := fdI_lt ha
    go_wp2_with fail
    refine (l1Find_any _ _ (lvL P l) a _ hi4.out).mono ?_
    rintro e w5 ⟨rfl, rfl⟩
    go_wp2
    go_ret2
    exact ⟨ret_in hv.out.1.symm hv.out.2.symm, B4⟩
  have hge := fdI_ge ha
  have hce := ce_bd htph.out (List.contains_iff_mem.1 ha) hf.out
  have hc := htph.out.c
  have q1 : IntKind.i64.wrap (fdI (lvL P l) a * cnZ (tbS S F)) = fdI (lvL P l) a * cnZ (tbS S F) := IntWalk.i64_in _ (by omega)
  have q2 : IntKind.i64.wrap (fdI (lvL P l) a * cnZ (tbS S F) + ixZ (tbS S F) V) = fdI (lvL P l) a * cnZ (tbS S F) + ixZ (tbS S F) V := IntWalk.i64_in _ (by unfold ceZ at hce; omega)
  have hv := Lib.hid (tci_yes (m := m) (W := W) htg.out ha hf.out)
  clear hce hc
  replace ha := Lib.hid ha
  go_wp2_with fail
  refine (l1Find_any _ _ (lvL P l) a _ hi4.out).mono ?_
  rintro e w5 ⟨rfl, rfl⟩
  go_wp2_with fail
  refine (sPart_any _ _ _ _ S F _ hip.out (hSh.out.rd.below B4) (hFh.out.2.2.below B4)).mono ?_
  rintro e w6 ⟨u6, rfl, ho6, hb6⟩
  obtain ⟨x6, n6, rfl, -, -⟩ := (OwR.of ho6).form
  have hr6 := Lib.hid (Rd.of_own ho6)
  clear ho6
  have B6 : Below w.heap.size w w6 := Below.via' B4 hb6
  have g6 := Lib.hid (g4.out.below hb6)
  have t6 := Lib.hid (t4.out.below hb6)
  obtain ⟨ka6, kb6, kc6⟩ := g6.out
  obtain ⟨ta6, tb6, tc6, td6, te6⟩ := t6.out
  try clear ka4 kb4 kc4 ta4 tb4 tc4 td4 te4
  clear hb6
  go_wp2_with fail
  refine (gLevel_any _ _ P l _ hgh.out (hPh.out.below B6)).mono ?_
  rintro e w7 ⟨v7, rfl, ho7, hb7⟩
  obtain ⟨x7, n7, rfl, -, -⟩ := (OwR.of ho7).form
  have hi7 : Hid (IIn w7 x7 (lvL P l)) := iin_sel (by omega) (Rd.of_own ho7)
  have hr7 := Lib.hid (hr6.out.below hb7)
  clear ho7
  have B7 : Below w.heap.size w w7 := Below.via' B6 hb7
  have g7 := Lib.hid (g6.out.below hb7)
  have t7 := Lib.hid (t6.out.below hb7)
  obtain ⟨ka7, kb7, kc7⟩ := g7.out
  obtain ⟨ta7, tb7, tc7, td7, te7⟩ := t7.out
  try clear ka6 kb6 kc6 ta6 tb6 tc6 td6 te6
  clear hb7
  go_wp2_with fail
  refine (l1Find_any _ _ (lvL P l) a _ hi7.out).mono ?_
  rintro e w8 ⟨rfl, rfl⟩
  go_wp2_with fail
  refine (sCount_p _ _ (tbS S F) _ hpt.out hr7.out).mono ?_
  rintro e w9 ⟨rfl, hb9⟩
  have B9 := Below.via' B7 hb9
  have hr9 := Lib.hid (hr7.out.below hb9)
  clear hb9
  go_wp2_with fail
  refine (sIndex_p _ _ _ _ (tbS S F) V _ hpt.out hf.out hr9.out (hVh.out.below B9)).mono ?_
  rintro e w10 ⟨rfl, hb10⟩
  go_wp2
  go_ret2
  exact ⟨ret_in hv.out.1.symm hv.out.2.symm, Below.via' B9 hb10⟩
end Go.Proofs.Ytgkaalonmkcclaa

namespace Go.Proofs.Ytgkaalonmkcclaa
open Go.RowKit
set_option maxRecDepth 100000

/-- A list with its first k and its last k elements exchanged. -/
def rvA (L : List Int) (k t : Nat) : Int := if t < k ∨ L.length ≤ t + k then L.getD (L.length - 1 - t) 0 else L.getD t 0
def rvK (L : List Int) (k : Nat) : List Int := (List.range L.length).map (rvA L k)
theorem rvK_len (L : List Int) (k : Nat) : (rvK L k).length = L.length := by unfold rvK; simp
theorem rvK_at {L : List Int} {k t : Nat} (h : t < L.length) : (rvK L k)[t]? = some (rvA L k t) := by unfold rvK; simp [h]
theorem gd_at {L : List Int} {t : Nat} (h : t < L.length) : L[t]? = some (L.getD t 0) := by rw [List.getD_eq_getElem?_getD, List.getElem?_eq_getElem h]; rfl
theorem rvK_zero (L : List Int) : rvK L 0 = L := by
  apply List.ext_getElem?
  intro t
  by_cases h : t < L.length
  · rw [rvK_at h, gd_at h]
    unfold rvA
    rw [if_neg (by omega)]
  · rw [List.getElem?_eq_none (by rw [rvK_len]; omega), List.getElem?_eq_none (by omega)]
theorem rvK_end {L : List Int} {k : Nat} (hk : L.length ≤ 2 * k + 1) : rvK L k = L.reverse := by
  apply List.ext_getElem?
  intro t
  by_cases h : t < L.length
  · rw [rvK_at h, List.getElem?_reverse h, gd_at (by omega)]
    unfold rvA
    by_cases hc : t < k ∨ L.length ≤ t + k
    · rw [if_pos hc]
    · rw [if_neg hc, show L.length - 1 - t = t by omega]
  · rw [List.getElem?_eq_none (by rw [rvK_len]; omega), List.getElem?_eq_none (by simp; omega)]
theorem rvK_step {L : List Int} {k : Nat} (hk : 2 * k + 1 < L.length) : ((rvK L k).set k (L.getD (L.length - 1 - k) 0)).set (L.length - 1 - k) (L.getD k 0) = rvK L (k + 1) := by
  apply List.ext_getElem?
  intro t
  rw [List.getElem?_set, List.getElem?_set, List.length_set, rvK_len]
  by_cases h : t < L.length
  · rw [rvK_at h, rvK_at h]
    by_cases e1 : L.length - 1 - k = t
    · rw [if_pos e1, if_pos (by omega)]
      unfold rvA
      rw [if_pos (by omega), ← e1, show L.length - 1 - (L.length - 1 - k) = k by omega]
    · rw [if_neg e1]
      by_cases e2 : k = t
      · subst e2
        rw [if_pos rfl, if_pos (by omega)]
        unfold rvA
        rw [if_pos (by omega)]
      · rw [if_neg e2]
        unfold rvA
        by_cases hc : t < k ∨ L.length ≤ t + k
        · rw [if_pos hc, if_pos (by omega)]
        · rw [if_neg hc, if_neg (by omega)]
  · rw [if_neg (by omega), if_neg (by omega), List.getElem?_eq_none (by rw [rvK_len]; omega), List.getElem?_eq_none (by rw [rvK_len]; omega)]

set_option maxHeartbeats 4000000 in
theorem reverse_any (g cap base : Nat) (L : List Int) (w : World) (hm : L.length ≤ 1048576) (h0 : 1 ≤ L.length) (ho : w.ownsRow base 3 1 (.slice (some ⟨g, 0, none⟩) L.length cap) L.length (iC L)) :
    Calls Try.prog 149 #[.slice (some ⟨g, 0, none⟩) L.length cap] w fun e w' => e = .returned (.tuple #[]) ∧ w'.ownsRow base 3 1 (.slice (some ⟨g, 0, none⟩) L.length cap) L.length (iC L.reverse) ∧ w.grownBy w' (some g) := by
  have hoh := Lib.hid ho
  clear ho
  have hpos : (1 : Int) ≤ (L.length : Int) := by omega
  go_enter Try.func149, Try.ntmps149
  go_wp2
  go_loopw [2, 3] (fun a b wr => ∃ k : Nat, 2 * k ≤ L.length ∧ a = .int .i64 k ∧ b = .int .i64 ((L.length : Int) - 1 - k) ∧ wr.ownsRow base 3 1 (.slice (some ⟨g, 0, none⟩) L.length cap) L.length (iC (rvK L k)) ∧ w.grownBy wr (some g)) (fun a _ _ => L.length - (intOf a).toNat)
  case atStart => exact ⟨0, by omega, by go_num, by go_num, by rw [rvK_zero]; exact hoh.out, World.grownBy.refl _ _⟩
  case round =>
    clear hoh
    obtain ⟨k, hk, rfl, rfl, hown, hb⟩ := hrel
    by_cases hlt : 2 * k + 1 < L.length
    · have hlt' : (k : Int) < (L.length : Int) - 1 - (k : Int) := by omega
      obtain ⟨m, hmk⟩ : ∃ m : Nat, m = L.length - 1 - k := ⟨_, rfl⟩
      have hmi : ((L.length : Int) - 1 - (k : Int)) = (m : Int) := by omega
      have hml : m < L.length := by omega
      have hkm : k < m := by omega
      have hkl : k < L.length := by omega
      obtain ⟨u, hu, k0⟩ := own_cell hown (j := k) (by omega)
      obtain ⟨u2, hu2, k02⟩ := own_cell hown (j := m) (by omega)
      have k1 := hown.frozenAt k
      have k12 := hown.frozenAt m
      have k4 := (own_lt hown).2
      have ek : rvA L k k = L.getD k 0 := by unfold rvA; rw [if_neg (by omega)]
      have em : rvA L k m = L.getD m 0 := by unfold rvA; rw [if_neg (by omega)]
      obtain ⟨p, hp⟩ : ∃ p : Int, p = L.getD k 0 := ⟨_, rfl⟩
      obtain ⟨q, hq⟩ : ∃ q : Int, q = L.getD m 0 := ⟨_, rfl⟩
      obtain rfl : u = .int .i64 p := by rw [hp, ← ek]; exact Option.some.inj (hu.symm.trans (iC_at (rvK_at hkl)))
      obtain rfl : u2 = .int .i64 q := by rw [hq, ← em]; exact Option.some.inj (hu2.symm.trans (iC_at (rvK_at hml)))
      have hst := hown.stored k (.int .i64 q)
      have hst2 := hst.1.stored m (.int .i64 p)
      have hse : ((rvK L k).set k q).set m p = rvK L (k + 1) := by rw [hp, hq, hmk]; exact rvK_step hlt
      rw [iC_setG, iC_setG, hse] at hst2
      have ho2 := Lib.hid hst2.1
      have hg2 := Lib.hid ((hb.trans hst.2).trans hst2.2)
      have hown := Lib.hid hown
      have hk0 : (0 : Int) ≤ (k : Int) := by omega
      have hm0 : (0 : Int) ≤ (m : Int) := by omega
      have hk1 : (k : Int) < (L.length : Int) := by omega
      have hm1 : (m : Int) < (L.length : Int) := by omega
      have hne : k ≠ m := by omega
      have hne2 : m ≠ k := by omega
      have hnx : Hid ((m : Int) - 1 = (L.length : Int) - 1 - ((k + 1 : Nat) : Int)) := by unfold Hid; omega
      rw [hmi]
      rw [hmi] at hlt'
      replace hmi := Lib.hid hmi
      replace hmk := Lib.hid hmk
      replace ek := Lib.hid ek
      replace em := Lib.hid em
      replace hu := Lib.hid hu
      replace hu2 := Lib.hid hu2
      clear hst hst2 hse hp hq
      go_wp2
      go_region
      all_goals
        go_wp2
        go_roundw
        case rel => exact ⟨k + 1, by omega, by go_num, by rw [hnx.out], own_below ho2.out (by repeat (first | exact Below.refl _ _ | assumption | refine Below.drew ?_ | refine below_drewN ?_ _ | refine Below.alloc' ?_ _ | (refine Below.setCell ?_ (by first | omega | (simp; done) | (simp; omega) | exact Below.size (by assumption) | exact Nat.le_trans (Below.size (by assumption)) (by simp)) _) | (refine Below.via' ?_ (by assumption)) | (refine Below.alloc ?_ (by first | omega | (simp; done) | (simp; omega) | exact Below.size (by assumption) | exact Nat.le_trans (Below.size (by assumption)) (by simp)) _) | (refine Below.via ?_ (by assumption) (by first | omega | (simp; done) | (simp; omega) | exact Below.size (by assumption) | exact Nat.le_trans (Below.size (by assumption)) (by simp))))), hg2.out.trans (grown_of_bel (by repeat (first | exact Below.refl _ _ | assumption | refine Below.drew ?_ | refine below_drewN ?_ _ | refine Below.alloc' ?_ _ | (refine Below.setCell ?_ (by first | omega | (simp; done) | (simp; omega) | exact Below.size (by assumption) | exact Nat.le_trans (Below.size (by assumption)) (by simp)) _) | (refine Below.via' ?_ (by assumption)) | (refine Below.alloc ?_ (by first | omega | (simp; done) | (simp; omega) | exact Below.size (by assumption) | exact Nat.le_trans (Below.size (by assumption)) (by simp)) _) | (refine Below.via ?_ (by assumption) (by first | omega | (simp; done) | (simp; omega) | exact Below.size (by assumption) | exact Nat.le_trans (Below.size (by assumption)) (by simp))))) _)⟩
        case measure => simp [intOf]; omega
    · have hge : ¬ (k : Int) < (L.length : Int) - 1 - (k : Int) := by omega
      have hv := Lib.hid (rvK_end (L := L) (k := k) (by omega))
      have hown := Lib.hid hown
      go_wp2
      refine bodyPost_end (v := .tuple #[]) (by simp [results, Try.results149, go_sem]) rfl ?_
      exact ⟨rfl, by rw [← hv.out]; exact hown.out, hb⟩

set_option maxHeartbeats 4000000 in
theorem pathTo_any (x : Option Addr) (c : Nat) (P : List Int) (i : Nat) (w : World) (hg : geB P = true) (hi : i < P.length) (h : IIn w x P) :
    Calls Try.prog 143 #[.agg #[.slice x P.length c], .int .i64 i] w (RetG (ptL P i) w) := by
  obtain ⟨i0, hii, hz0, hz1, hz2⟩ := info_parts Try.infoInt
  have hm := h.1
  have hh := Lib.hid h.2.2
  have hl := ge_len hg
  have hd := dp_le hg hi
  have hgh := Lib.hid hg
  have hq0 := Lib.hid (QB.new w x P.length c 33)
  clear h hg
  go_enter Try.func143, Try.ntmps143
  go_wp2
  go_loopw [1, 5] (fun a u wr => ∃ (z : Int) (L R : List Int), a = .int .i64 z ∧ -1 ≤ z ∧ Hid (Clm P z R) ∧ Hid (L ++ R = upW P i) ∧ L.length ≤ 31 ∧ wr.ownsRow (w.heap.size + 1) 3 1 u L.length (iC L) ∧ QB wr w.heap.size x P.length c ∧ Below w.heap.size w wr) (fun a _ _ => (intOf a + 1).toNat)
  case atStart => exact ⟨i, [], upW P i, rfl, by omega, Or.inr ⟨i, rfl, hi, rfl⟩, rfl, by simp, World.ownsRow_nil _ _ _ _, hq0.out, (by repeat (first | exact Below.refl _ _ | assumption | refine Below.drew ?_ | refine below_drewN ?_ _ | refine Below.alloc' ?_ _ | (refine Below.setCell ?_ (by first | omega | (simp; done) | (simp; omega) | exact Below.size (by assumption) | exact Nat.le_trans (Below.size (by assumption)) (by simp)) _) | (refine Below.via' ?_ (by assumption)) | (refine Below.alloc ?_ (by first | omega | (simp; done) | (simp; omega) | exact Below.size (by assumption) | exact Nat.le_trans (Below.size (by assumption)) (by simp)) _) | (refine Below.via ?_ (by assumption) (by first | omega | (simp; done) | (simp; omega) | exact Below.size (by assumption) | exact Nat.le_trans (Below.size (by assumption)) (by simp)))))⟩
  case round =>
    clear hq0
    obtain ⟨z, L, R, rfl, hz, hc, hL, hLl, hown, hq, hb⟩ := hrel
    obtain ⟨ka, kb, kc⟩ := hq
    have hqh := Lib.hid (show QB wr w.heap.size x P.length c from ⟨ka, kb, kc⟩)
    have hownh := Lib.hid hown
    clear hown
    rcases hc.out with ⟨rfl, hR⟩ | ⟨j, rfl, hj, hR⟩
    · have hLe : L = upW P i := by
        have := hL.out
        rw [hR] at this
        simpa using this
      have hv : Hid (L.reverse = ptL P i) := by rw [hLe]; rfl
      have hLn : 1 ≤ L.length := by rw [hLe, up_len]; omega
      obtain ⟨g, cu, rfl⟩ := own_someV hownh.out (by omega)
      replace hLe := Lib.hid hLe
      replace hR := Lib.hid hR
      have hs0 := hb.size
      have hgw := (own_lt hownh.out).1
      clear hc
      go_wp2_with fail
      refine (reverse_any g cu (w.heap.size + 1) L wr (by omega) hLn hownh.out).mono ?_
      rintro e w2 ⟨rfl, ho2, hg2⟩
      have ho2 := Lib.hid ho2
      have hb2 := Lib.hid (hb.grown hg2 (by omega) (fun k hk => by injection hk with hk; omega))
      clear hg2 ka kb kc
      go_wp2
      go_ret
      refine ⟨_, rfl, ?_, hb2.out⟩
      rw [← hv.out, List.length_reverse]
      exact own_more ho2.out (by omega)
    · obtain ⟨b, off, v, hx, hbl, hPj, hc0⟩ := (hh.out.below hb).int (i := j) hj
      have hlen2 : Hid (L.length + R.length = dpN P i + 1) := by
        have := congrArg List.length hL.out
        rw [List.length_append, up_len] at this
        exact this
      have hll : L.length ≤ 30 := by
        have h1 := hlen2.out
        rw [hR, up_len] at h1
        omega
      have hnext : Hid (-1 ≤ v ∧ v < j ∧ ∃ R2, Clm P v R2 ∧ R = (j : Int) :: R2) := by
        rcases Nat.eq_zero_or_pos j with e | e
        · subst e
          have hz := ge_zero hgh.out
          obtain rfl : v = -1 := Option.some.inj (hPj.symm.trans hz)
          exact ⟨by omega, by omega, [], clm_zero, by rw [hR]; exact upW_root⟩
        · obtain ⟨p, hp, hpl⟩ := ge_par hgh.out e hj
          obtain rfl : v = p := Option.some.inj (hPj.symm.trans hp)
          exact ⟨by omega, by omega, upW P p, Or.inr ⟨p, rfl, by omega, rfl⟩, by rw [hR]; exact upW_step hp hpl⟩
      obtain ⟨hn1, hn2, R2, hc2, hR2⟩ := hnext.out
      have hL2 : Hid ((L ++ [(j : Int)]) ++ R2 = upW P i) := by
        have := hL.out
        rw [hR2] at this
        unfold Hid
        simpa using this
      have hj0 : (0 : Int) ≤ (j : Int) := by omega
      have hj1 : (j : Int) < (P.length : Int) := by omega
      have hjm : ((j : Int) == -1) = false := by rw [beq_eq_false_iff_ne]; omega
      have hjm' : ((j : Int) != -1) = true := by show (!((j : Int) == -1)) = true; rw [hjm]; rfl
      replace hc2 := Lib.hid hc2
      replace hx := Lib.hid hx
      replace hPj := Lib.hid hPj
      clear hR hR2 hnext hc hL hlen2
      have hxx := hx.out
      subst hxx
      have hs0 := hb.size
      have hbq : b < w.heap.size := by
        rcases hh.out with h2 | ⟨b2, off2, e2, hl2, _⟩
        · have := iC_len P; rw [h2] at this; simp at this; omega
        · injection e2 with e2; injection e2 with e3; omega
      go_wp2_with (at_builtin; go_loud (refine wpList_append_rd _ rfl (.tmp 8) (.tmp 10) 22 rfl (w.heap.size + 1) 3 i0 (.int .i64 0) 1 8 Try.underlying22 hii hz0 hz1 hz2 rfl (by decide) _ (L).length (iC (L)) rfl ((hownh.out.alloc _)) _ 1 1 rfl (Nat.le_refl _) (by intro h; cases h) (iC [((j : Int) : Int)]) rfl (rd_oneG _ _ _ _ (by simp)) (iC_one _) (by unfold maxLen; omega) (by omega) (by simp; omega) ?_); intro v3 w3 hown3 hgrow3 hwhere3; (have hbx := append_below hb (fun k hk => by have := (hownh.out.lt k hk).1; omega) hgrow3 hwhere3); (obtain ⟨ka3, kb3, kc3⟩ := hqh.out.rest hgrow3 (fun k hk => by have := (hownh.out.lt k hk).1; omega)); (have hc3 := (hbx.1.cell (p := ⟨b, off + j, none⟩) hbq).trans ((hb.cell (p := ⟨b, off + j, none⟩) hbq).symm.trans hc0)))
      have hb3 := Lib.hid hbx.1
      have ho3 : Hid (w3.ownsRow (w.heap.size + 1) 3 1 v3 (L ++ [(j : Int)]).length (iC (L ++ [(j : Int)]))) := own_snoc hown3 rfl rfl
      have hq3 : Hid (QB w3 w.heap.size (some ⟨b, off, none⟩) P.length c) := ⟨ka3, kb3, kc3⟩
      clear hgrow3 hwhere3 hown3 hqh hownh hbx
      go_wp2
      go_roundw
      case rel => exact ⟨v, L ++ [(j : Int)], R2, rfl, hn1, hc2.out, hL2.out, by rw [List.length_append]; simp; omega, ho3.out, hq3.out, hb3.out⟩
      case measure => simp [intOf]; omega
end Go.Proofs.Ytgkaalonmkcclaa

namespace Go.Proofs.Ytgkaalonmkcclaa
open Go.RowKit
set_option maxRecDepth 100000

/-- A list that is handed back only together with true. -/
def gIf (b : Bool) (L : List Int) : List Int := if b then L else []
theorem gIf_len (b : Bool) (L : List Int) {n : Nat} (h : b = true → L.length ≤ n) : (gIf b L).length ≤ n := by
  unfold gIf
  cases b with
  | true => exact h rfl
  | false => simp
theorem RetGB.no {b : Bool} {L : List Int} {w w' : World} (h : b = false) (hb : Below w.heap.size w w') : RetGB (gIf b L) b w (.returned (.tuple #[.slice none 0 0, .bool false])) w' := by
  subst h
  exact ⟨_, rfl, World.ownsRow_nil _ _ _ _, hb⟩
theorem RetGB.yes {b : Bool} {L : List Int} {w w' w2 : World} {v : Value} (h : b = true) (ho : w2.ownsRow w.heap.size 3 1 v L.length (iC L)) (hb2 : Below w2.heap.size w2 w') (hb : Below w.heap.size w w') : RetGB (gIf b L) b w (.returned (.tuple #[v, .bool true])) w' := by
  subst h
  exact ⟨_, rfl, own_below ho hb2, hb⟩
def dpZ (P : List Int) (i : Int) : Int := if gaB P i then dpN P i.toNat else 0
theorem dpZ_no {P : List Int} {i : Int} (h : gaB P i = false) : dpZ P i = 0 := by unfold dpZ; rw [h]; rfl
theorem dpZ_yes {P : List Int} {k : Nat} (h : gaB P k = true) : dpZ P k = dpN P k := by unfold dpZ; rw [h, Int.toNat_natCast]; rfl
def aaB (P : List Int) (i l : Int) : Bool := gaB P i && (decide (0 ≤ l) && decide (l ≤ dpN P i.toNat))
def aaZ (P : List Int) (i l : Int) : Int := if aaB P i l then anZ P i.toNat l else 0
theorem aa_no1 {P : List Int} {i l : Int} (h : gaB P i = false) : aaB P i l = false ∧ aaZ P i l = 0 := by
  have e : aaB P i l = false := by unfold aaB; rw [h]; rfl
  exact ⟨e, by unfold aaZ; rw [e]; rfl⟩
theorem aa_no2 {P : List Int} {k : Nat} {l : Int} (h : ¬ (0 ≤ l ∧ l ≤ dpN P k)) : aaB P k l = false ∧ aaZ P k l = 0 := by
  have e : aaB P k l = false := by
    unfold aaB
    rw [Int.toNat_natCast, Bool.and_eq_false_iff, Bool.and_eq_false_iff, decide_eq_false_iff_not, decide_eq_false_iff_not]
    right
    omega
  exact ⟨e, by unfold aaZ; rw [e]; rfl⟩
theorem aa_yes {P : List Int} {k : Nat} {l : Int} (h : gaB P k = true) (h0 : 0 ≤ l) (h1 : l ≤ dpN P k) : aaB P k l = true ∧ aaZ P k l = anZ P k l := by
  have e : aaB P k l = true := by unfold aaB; rw [h, Int.toNat_natCast, decide_eq_true h0, decide_eq_true h1]; rfl
  exact ⟨e, by unfold aaZ; rw [e, Int.toNat_natCast]; rfl⟩

/-- A level: whether it has areas. -/
def lvnB (P : List Int) (l : Int) : Bool := geB P && decide (0 < (lvL P l).length)
def LvP (P : List Int) (l : Int) (w : World) (e : Ending) (w' : World) : Prop := ∃ v, e = .returned (.tuple #[v, .bool (lvnB P l)]) ∧ w'.ownsRow w.heap.size 3 1 v (gIf (geB P) (lvL P l)).length (iC (gIf (geB P) (lvL P l))) ∧ Below w.heap.size w w'
theorem LvP.no {P : List Int} {l : Int} {w w' : World} (h : geB P = false) (hb : Below w.heap.size w w') : LvP P l w (.returned (.tuple #[.slice none 0 0, .bool false])) w' := by
  unfold LvP lvnB gIf
  rw [h]
  exact ⟨_, rfl, World.ownsRow_nil _ _ _ _, hb⟩
theorem LvP.yes {P : List Int} {l : Int} {w w' w2 : World} {v : Value} {b : Bool} (h : geB P = true) (hq : b = decide (0 < (lvL P l).length)) (ho : w2.ownsRow w.heap.size 3 1 v (lvL P l).length (iC (lvL P l))) (hb2 : Below w2.heap.size w2 w') (hb : Below w.heap.size w w') : LvP P l w (.returned (.tuple #[v, .bool b])) w' := by
  subst hq
  unfold LvP lvnB gIf
  rw [h]
  exact ⟨_, rfl, own_below ho hb2, hb⟩
end Go.Proofs.Ytgkaalonmkcclaa

namespace Go.Proofs.Ytgkaalonmkcclaa
open Go.RowKit
set_option maxRecDepth 100000

set_option maxHeartbeats 2000000 in
theorem iAA_x (x : Option Addr) (c : Nat) (P : List Int) (i l : Int) (w : World) (h : IIn w x P) :
    Calls Try.prog 122 #[.agg #[.slice x P.length c], .int .i64 i, .int .i64 l] w fun e w' => e = .returned (.tuple #[.int .i64 (aaZ P i l), .bool (aaB P i l)]) ∧ Below w.heap.size w w' := by
  have hm := h.1
  have hh := Lib.hid h
  have hq := Lib.hid (QB.new w x P.length c 33)
  clear h
  cases hg : geB P
  · have hv := Lib.hid (aa_no1 (l := l) (ga_no1 (i := i) hg))
    go_enter Try.func122, Try.ntmps122
    go_wp2_with fail
    refine (iGeo_any _ _ _ _ (hh.out.below (by exact (by repeat (first | exact Below.refl _ _ | assumption | refine Below.drew ?_ | refine below_drewN ?_ _ | refine Below.alloc' ?_ _ | (refine Below.setCell ?_ (by first | omega | (simp; done) | (simp; omega) | exact Below.size (by assumption) | exact Nat.le_trans (Below.size (by assumption)) (by simp)) _) | (refine Below.via' ?_ (by assumption)) | (refine Below.alloc ?_ (by first | omega | (simp; done) | (simp; omega) | exact Below.size (by assumption) | exact Nat.le_trans (Below.size (by assumption)) (by simp)) _) | (refine Below.via ?_ (by assumption) (by first | omega | (simp; done) | (simp; omega) | exact Below.size (by assumption) | exact Nat.le_trans (Below.size (by assumption)) (by simp)))))))).mono ?_
    rintro e w1 ⟨rfl, hb1⟩
    obtain ⟨ka, kb, kc⟩ := hq.out.below hb1
    rw [hg]
    go_wp2
    go_ret2
    exact ⟨ret_ibG hv.out.2.symm hv.out.1.symm, (by repeat (first | exact Below.refl _ _ | assumption | refine Below.drew ?_ | refine below_drewN ?_ _ | refine Below.alloc' ?_ _ | (refine Below.setCell ?_ (by first | omega | (simp; done) | (simp; omega) | exact Below.size (by assumption) | exact Nat.le_trans (Below.size (by assumption)) (by simp)) _) | (refine Below.via' ?_ (by assumption)) | (refine Below.alloc ?_ (by first | omega | (simp; done) | (simp; omega) | exact Below.size (by assumption) | exact Nat.le_trans (Below.size (by assumption)) (by simp)) _) | (refine Below.via ?_ (by assumption) (by first | omega | (simp; done) | (simp; omega) | exact Below.size (by assumption) | exact Nat.le_trans (Below.size (by assumption)) (by simp)))))⟩
  cases ha : inB i 0 ((P.length : Int) - 1)
  · have hv := Lib.hid (aa_no1 (l := l) (ga_no2 (i := i) ha))
    go_enter Try.func122, Try.ntmps122
    go_wp2_with fail
    refine (iGeo_any _ _ _ _ (hh.out.below (by exact (by repeat (first | exact Below.refl _ _ | assumption | refine Below.drew ?_ | refine below_drewN ?_ _ | refine Below.alloc' ?_ _ | (refine Below.setCell ?_ (by first | omega | (simp; done) | (simp; omega) | exact Below.size (by assumption) | exact Nat.le_trans (Below.size (by assumption)) (by simp)) _) | (refine Below.via' ?_ (by assumption)) | (refine Below.alloc ?_ (by first | omega | (simp; done) | (simp; omega) | exact Below.size (by assumption) | exact Nat.le_trans (Below.size (by assumption)) (by simp)) _) | (refine Below.via ?_ (by assumption) (by first | omega | (simp; done) | (simp; omega) | exact Below.size (by assumption) | exact Nat.le_trans (Below.size (by assumption)) (by simp)))))))).mono ?_
    rintro e w1 ⟨rfl, hb1⟩
    obtain ⟨ka1, kb1, kc1⟩ := hq.out.below hb1
    rw [hg]
    go_wp2_with fail
    refine (isArea_any _ _ _ _ _).mono ?_
    rintro e w2 ⟨rfl, hb2⟩
    obtain ⟨ka, kb, kc⟩ := (hq.out.below hb1).below hb2
    clear ka1 kb1 kc1
    rw [ha]
    go_wp2
    go_ret2
    exact ⟨ret_ibG hv.out.2.symm hv.out.1.symm, (by repeat (first | exact Below.refl _ _ | assumption | refine Below.drew ?_ | refine below_drewN ?_ _ | refine Below.alloc' ?_ _ | (refine Below.setCell ?_ (by first | omega | (simp; done) | (simp; omega) | exact Below.size (by assumption) | exact Nat.le_trans (Below.size (by assumption)) (by simp)) _) | (refine Below.via' ?_ (by assumption)) | (refine Below.alloc ?_ (by first | omega | (simp; done) | (simp; omega) | exact Below.size (by assumption) | exact Nat.le_trans (Below.size (by assumption)) (by simp)) _) | (refine Below.via ?_ (by assumption) (by first | omega | (simp; done) | (simp; omega) | exact Below.size (by assumption) | exact Nat.le_trans (Below.size (by assumption)) (by simp)))))⟩
  have hga := ga_yes hg ha
  obtain ⟨-, k, rfl, hk⟩ := ga_get hga
  have hgh := Lib.hid hg
  have hpl := pt_len P k
  have hpd := dp_le hg hk
  have hlen := ge_len hg
  by_cases hl : 0 ≤ l ∧ l ≤ dpN P k
  · have hv := Lib.hid (aa_yes hga hl.1 hl.2)
    obtain ⟨n, rfl⟩ := Int.eq_ofNat_of_zero_le hl.1
    have hnl : n < (ptL P k).length := by omega
    have hat : (ptL P k)[n]? = some ((ptL P k)[n]) := List.getElem?_eq_getElem hnl
    have han := an_at hat
    obtain ⟨z, hz⟩ : ∃ z, z = (ptL P k)[n] := ⟨_, rfl⟩
    rw [← hz] at hat han
    replace hz := Lib.hid hz
    have hat := Lib.hid hat
    have han := Lib.hid han
    have h0' : (0 : Int) ≤ (n : Int) := hl.1
    have h1' : (n : Int) < ((ptL P k).length : Int) := by omega
    have hga := Lib.hid hga
    clear hl hpl
    go_enter Try.func122, Try.ntmps122
    go_wp2_with fail
    refine (iGeo_any _ _ _ _ (hh.out.below (by exact (by repeat (first | exact Below.refl _ _ | assumption | refine Below.drew ?_ | refine below_drewN ?_ _ | refine Below.alloc' ?_ _ | (refine Below.setCell ?_ (by first | omega | (simp; done) | (simp; omega) | exact Below.size (by assumption) | exact Nat.le_trans (Below.size (by assumption)) (by simp)) _) | (refine Below.via' ?_ (by assumption)) | (refine Below.alloc ?_ (by first | omega | (simp; done) | (simp; omega) | exact Below.size (by assumption) | exact Nat.le_trans (Below.size (by assumption)) (by simp)) _) | (refine Below.via ?_ (by assumption) (by first | omega | (simp; done) | (simp; omega) | exact Below.size (by assumption) | exact Nat.le_trans (Below.size (by assumption)) (by simp)))))))).mono ?_
    rintro e w1 ⟨rfl, hb1⟩
    obtain ⟨ka1, kb1, kc1⟩ := hq.out.below hb1
    rw [hg]
    go_wp2_with fail
    refine (isArea_any _ _ _ _ _).mono ?_
    rintro e w2 ⟨rfl, hb2⟩
    obtain ⟨ka, kb, kc⟩ := (hq.out.below hb1).below hb2
    clear ka1 kb1 kc1
    rw [ha]
    go_wp2_with fail
    refine (pathTo_any _ _ P k _ hgh.out hk (hh.out.below (by exact (by repeat (first | exact Below.refl _ _ | assumption | refine Below.drew ?_ | refine below_drewN ?_ _ | refine Below.alloc' ?_ _ | (refine Below.setCell ?_ (by first | omega | (simp; done) | (simp; omega) | exact Below.size (by assumption) | exact Nat.le_trans (Below.size (by assumption)) (by simp)) _) | (refine Below.via' ?_ (by assumption)) | (refine Below.alloc ?_ (by first | omega | (simp; done) | (simp; omega) | exact Below.size (by assumption) | exact Nat.le_trans (Below.size (by assumption)) (by simp)) _) | (refine Below.via ?_ (by assumption) (by first | omega | (simp; done) | (simp; omega) | exact Below.size (by assumption) | exact Nat.le_trans (Below.size (by assumption)) (by simp)))))))).mono ?_
    rintro e w5 ⟨v5, rfl, ho5, hb5⟩
    obtain ⟨g5, c5, rfl⟩ := own_someV ho5 (by omega)
    obtain ⟨u, hu, k0⟩ := own_cell ho5 (j := n) (by omega)
    obtain rfl : u = .int .i64 z := Option.some.inj (hu.symm.trans (iC_at hat.out))
    have hu := Lib.hid hu
    clear ho5
    go_wp2
    go_ret2
    exact ⟨ret_ibG (by rw [hv.out.2, han.out]) hv.out.1.symm, (by repeat (first | exact Below.refl _ _ | assumption | refine Below.drew ?_ | refine below_drewN ?_ _ | refine Below.alloc' ?_ _ | (refine Below.setCell ?_ (by first | omega | (simp; done) | (simp; omega) | exact Below.size (by assumption) | exact Nat.le_trans (Below.size (by assumption)) (by simp)) _) | (refine Below.via' ?_ (by assumption)) | (refine Below.alloc ?_ (by first | omega | (simp; done) | (simp; omega) | exact Below.size (by assumption) | exact Nat.le_trans (Below.size (by assumption)) (by simp)) _) | (refine Below.via ?_ (by assumption) (by first | omega | (simp; done) | (simp; omega) | exact Below.size (by assumption) | exact Nat.le_trans (Below.size (by assumption)) (by simp)))))⟩
  have hv := Lib.hid (aa_no2 hl)
  have hga := Lib.hid hga
  have hlm : ((ptL P k).length : Int) = (dpN P k : Int) + 1 := by omega
  by_cases hn : l < 0
  · clear hl hpl hlm
    go_enter Try.func122, Try.ntmps122
    go_wp2_with fail
    refine (iGeo_any _ _ _ _ (hh.out.below (by exact (by repeat (first | exact Below.refl _ _ | assumption | refine Below.drew ?_ | refine below_drewN ?_ _ | refine Below.alloc' ?_ _ | (refine Below.setCell ?_ (by first | omega | (simp; done) | (simp; omega) | exact Below.size (by assumption) | exact Nat.le_trans (Below.size (by assumption)) (by simp)) _) | (refine Below.via' ?_ (by assumption)) | (refine Below.alloc ?_ (by first | omega | (simp; done) | (simp; omega) | exact Below.size (by assumption) | exact Nat.le_trans (Below.size (by assumption)) (by simp)) _) | (refine Below.via ?_ (by assumption) (by first | omega | (simp; done) | (simp; omega) | exact Below.size (by assumption) | exact Nat.le_trans (Below.size (by assumption)) (by simp)))))))).mono ?_
    rintro e w1 ⟨rfl, hb1⟩
    obtain ⟨ka1, kb1, kc1⟩ := hq.out.below hb1
    rw [hg]
    go_wp2_with fail
    refine (isArea_any _ _ _ _ _).mono ?_
    rintro e w2 ⟨rfl, hb2⟩
    obtain ⟨ka, kb, kc⟩ := (hq.out.below hb1).below hb2
    clear ka1 kb1 kc1
    rw [ha]
    go_wp2_with fail
    refine (pathTo_any _ _ P k _ hgh.out hk (hh.out.below (by exact (by repeat (first | exact Below.refl _ _ | assumption | refine Below.drew ?_ | refine below_drewN ?_ _ | refine Below.alloc' ?_ _ | (refine Below.setCell ?_ (by first | omega | (simp; done) | (simp; omega) | exact Below.size (by assumption) | exact Nat.le_trans (Below.size (by assumption)) (by simp)) _) | (refine Below.via' ?_ (by assumption)) | (refine Below.alloc ?_ (by first | omega | (simp; done) | (simp; omega) | exact Below.size (by assumption) | exact Nat.le_trans (Below.size (by assumption)) (by simp)) _) | (refine Below.via ?_ (by assumption) (by first | omega | (simp; done) | (simp; omega) | exact Below.size (by assumption) | exact Nat.le_trans (Below.size (by assumption)) (by simp)))))))).mono ?_
    rintro e w5 ⟨v5, rfl, ho5, hb5⟩
    clear ho5
    go_wp2
    go_ret2
    exact ⟨ret_ibG hv.out.2.symm hv.out.1.symm, (by repeat (first | exact Below.refl _ _ | assumption | refine Below.drew ?_ | refine below_drewN ?_ _ | refine Below.alloc' ?_ _ | (refine Below.setCell ?_ (by first | omega | (simp; done) | (simp; omega) | exact Below.size (by assumption) | exact Nat.le_trans (Below.size (by assumption)) (by simp)) _) | (refine Below.via' ?_ (by assumption)) | (refine Below.alloc ?_ (by first | omega | (simp; done) | (simp; omega) | exact Below.size (by assumption) | exact Nat.le_trans (Below.size (by assumption)) (by simp)) _) | (refine Below.via ?_ (by assumption) (by first | omega | (simp; done) | (simp; omega) | exact Below.size (by assumption) | exact Nat.le_trans (Below.size (by assumption)) (by simp)))))⟩
  · have hge : ((ptL P k).length : Int) ≤ l := by omega
    have hpn : 0 < (ptL P k).length := by omega
    clear hl hpl hlm
    go_enter Try.func122, Try.ntmps122
    go_wp2_with fail
    refine (iGeo_any _ _ _ _ (hh.out.below (by exact (by repeat (first | exact Below.refl _ _ | assumption | refine Below.drew ?_ | refine below_drewN ?_ _ | refine Below.alloc' ?_ _ | (refine Below.setCell ?_ (by first | omega | (simp; done) | (simp; omega) | exact Below.size (by assumption) | exact Nat.le_trans (Below.size (by assumption)) (by simp)) _) | (refine Below.via' ?_ (by assumption)) | (refine Below.alloc ?_ (by first | omega | (simp; done) | (simp; omega) | exact Below.size (by assumption) | exact Nat.le_trans (Below.size (by assumption)) (by simp)) _) | (refine Below.via ?_ (by assumption) (by first | omega | (simp; done) | (simp; omega) | exact Below.size (by assumption) | exact Nat.le_trans (Below.size (by assumption)) (by simp)))))))).mono ?_
    rintro e w1 ⟨rfl, hb1⟩
    obtain ⟨ka1, kb1, kc1⟩ := hq.out.below hb1
    rw [hg]
    go_wp2_with fail
    refine (isArea_any _ _ _ _ _).mono ?_
    rintro e w2 ⟨rfl, hb2⟩
    obtain ⟨ka, kb, kc⟩ := (hq.out.below hb1).below hb2
    clear ka1 kb1 kc1
    rw [ha]
    go_wp2_with fail
    refine (pathTo_any _ _ P k _ hgh.out hk (hh.out.below (by exact (by repeat (first | exact Below.refl _ _ | assumption | refine Below.drew ?_ | refine below_drewN ?_ _ | refine Below.alloc' ?_ _ | (refine Below.setCell ?_ (by first | omega | (simp; done) | (simp; omega) | exact Below.size (by assumption) | exact Nat.le_trans (Below.size (by assumption)) (by simp)) _) | (refine Below.via' ?_ (by assumption)) | (refine Below.alloc ?_ (by first | omega | (simp; done) | (simp; omega) | exact Below.size (by assumption) | exact Nat.le_trans (Below.size (by assumption)) (by simp)) _) | (refine Below.via ?_ (by assumption) (by first | omega | (simp; done) | (simp; omega) | exact Below.size (by assumption) | exact Nat.le_trans (Below.size (by assumption)) (by simp)))))))).mono ?_
    rintro e w5 ⟨v5, rfl, ho5, hb5⟩
    obtain ⟨g5, c5, rfl⟩ := own_someV ho5 hpn
    clear ho5
    go_wp2
    go_ret2
    exact ⟨ret_ibG hv.out.2.symm hv.out.1.symm, (by repeat (first | exact Below.refl _ _ | assumption | refine Below.drew ?_ | refine below_drewN ?_ _ | refine Below.alloc' ?_ _ | (refine Below.setCell ?_ (by first | omega | (simp; done) | (simp; omega) | exact Below.size (by assumption) | exact Nat.le_trans (Below.size (by assumption)) (by simp)) _) | (refine Below.via' ?_ (by assumption)) | (refine Below.alloc ?_ (by first | omega | (simp; done) | (simp; omega) | exact Below.size (by assumption) | exact Nat.le_trans (Below.size (by assumption)) (by simp)) _) | (refine Below.via ?_ (by assumption) (by first | omega | (simp; done) | (simp; omega) | exact Below.size (by assumption) | exact Nat.le_trans (Below.size (by assumption)) (by simp)))))⟩
end Go.Proofs.Ytgkaalonmkcclaa

namespace Go.Proofs.Ytgkaalonmkcclaa
open Go.RowKit
set_option maxRecDepth 100000

theorem elemsI_l (x y : Option Addr) (c1 c2 : Nat) (V F : List Int) (w : World) (hp : InP V.length F) (hV : IIn w y V) (hF : Rd w x (iC F)) :
    Calls Try.prog 124 #[.slice y V.length c1, .slice x F.length c2] w fun e w' => e = .returned (.slice (some ⟨w.heap.size, 0, none⟩) (tbV V F).length (tbV V F).length) ∧ Rd w' (some ⟨w.heap.size, 0, none⟩) (iC (tbV V F)) ∧ Below w.heap.size w w' := by
  refine (elemsI_any x y c1 c2 V F w hp hV hF).mono ?_
  rintro e w' ⟨rfl, ho, hb⟩
  exact ⟨by rw [tbV_len], Rd.of_own ho, hb⟩
theorem ret_ii {a b d e : Int} (h : a = b) (k : d = e) : Ending.returned (.tuple #[.int .i64 a, .int .i64 d]) = .returned (.tuple #[.int .i64 b, .int .i64 e]) := by rw [h, k]
/-- A record that goes with a table: its area is one, its values fit. -/
structure ClP (P : List Int) (S : List (ByteArray × Int)) (k : Nat) (V : List Int) : Prop where
  a : k < P.length
  f : fitB S V = true
section
variable {P : List Int} {S : List (ByteArray × Int)} {l : Int} {F W : List Int} {m : Int} {k : Nat} {V : List Int}
theorem clp_no (h : ¬ (0 ≤ anZ P k l ∧ tmB W V = true)) : clI P S l F W (k : Int) V = -1 ∧ clN P l W m (k : Int) V = 0 := by
  refine cl_no ?_
  rw [Int.toNat_natCast]
  exact h
theorem clp_yes (h : 0 ≤ anZ P k l) (h2 : tmB W V = true) : clI P S l F W (k : Int) V = ceZ P S l F (anZ P k l) (tbV V F) := by
  have := cl_yes (P := P) (S := S) (l := l) (F := F) (a := (k : Int)) (by rw [Int.toNat_natCast]; exact h) h2
  rwa [Int.toNat_natCast] at this
theorem clp_one (h : 0 ≤ anZ P k l) (h2 : tmB W V = true) (hm : m < 0) : clN P l W m (k : Int) V = 1 := cl_one (by rw [Int.toNat_natCast]; exact h) h2 hm
theorem clp_val {v : Int} (h : 0 ≤ anZ P k l) (h2 : tmB W V = true) (hm : 0 ≤ m) (hv : V[m.toNat]? = some v) : clN P l W m (k : Int) V = v := cl_val (by rw [Int.toNat_natCast]; exact h) h2 hm hv
theorem clp_aa (hg : geB P = true) (ha : k < P.length) : aaB P k l = decide (0 ≤ anZ P k l) ∧ (0 ≤ anZ P k l → aaZ P k l = anZ P k l) := by
  have hga := ga_yes hg ((inB_iff (k : Int) 0 ((P.length : Int) - 1)).2 ⟨by omega, by omega⟩)
  have hb := (an_bd hg ha l).2.2
  by_cases h : 0 ≤ l ∧ l ≤ dpN P k
  · have := aa_yes hga h.1 h.2
    exact ⟨by rw [this.1, decide_eq_true (hb.2 h)], fun _ => this.2⟩
  · have := aa_no2 (P := P) (k := k) h
    have hn : ¬ 0 ≤ anZ P k l := fun q => h (hb.1 q)
    exact ⟨by rw [this.1, decide_eq_false hn], fun q => absurd q hn⟩
end

set_option maxHeartbeats 16000000 in
theorem contrib_any (p x z ga va v : Option Addr) (c c2 c3 ca cv c4 : Nat) (P : List Int) (S : List (ByteArray × Int)) (l : Int) (F W : List Int) (m : Int) (k : Nat) (h : Int) (V : List Int) (w : World) (htg : TgP P S l F W m) (hcl : ClP P S k V) (hP : IIn w p P) (hF : IIn w x F) (hW : IIn w z W) (hA : IIn w ga (lvL P l)) (hT : Rd w va (vC (tbS S F))) (hV : IIn w v V) :
    Calls Try.prog 89 #[.agg #[.slice p P.length c, .int .i64 l, .slice x F.length c2, .slice z W.length c3, .int .i64 m, .slice ga (lvL P l).length ca, .slice va (tbS S F).length cv], .agg #[.int .i64 k, .int .i64 h, .slice v V.length c4]] w fun e w' => e = .returned (.tuple #[.int .i64 (clI P S l F W (k : Int) V), .int .i64 (clN P l W m (k : Int) V)]) ∧ Below w.heap.size w w' := by
  have p1 := Lib.hid (g7_of_wb (Wb.new w 91 #[.slice p P.length c, .int .i64 l, .slice x F.length c2, .slice z W.length c3, .int .i64 m, .slice ga (lvL P l).length ca, .slice va (tbS S F).length cv]))
  have p2 := Lib.hid (RB.new (w.alloc (.cells #[.slice p P.length c, .int .i64 l, .slice x F.length c2, .slice z W.length c3, .int .i64 m, .slice ga (lvL P l).length ca, .slice va (tbS S F).length cv] 91)) k h v V.length c4 72)
  obtain ⟨w0, hw0⟩ : ∃ w0, w0 = (w.alloc (.cells #[.slice p P.length c, .int .i64 l, .slice x F.length c2, .slice z W.length c3, .int .i64 m, .slice ga (lvL P l).length ca, .slice va (tbS S F).length cv] 91)).alloc (.cells #[.int .i64 k, .int .i64 h, .slice v V.length c4] 72) := ⟨_, rfl⟩
  have B0 : Below w.heap.size w w0 := by rw [hw0]; exact (by repeat (first | exact Below.refl _ _ | assumption | refine Below.drew ?_ | refine below_drewN ?_ _ | refine Below.alloc' ?_ _ | (refine Below.setCell ?_ (by first | omega | (simp; done) | (simp; omega) | exact Below.size (by assumption) | exact Nat.le_trans (Below.size (by assumption)) (by simp)) _) | (refine Below.via' ?_ (by assumption)) | (refine Below.alloc ?_ (by first | omega | (simp; done) | (simp; omega) | exact Below.size (by assumption) | exact Nat.le_trans (Below.size (by assumption)) (by simp)) _) | (refine Below.via ?_ (by assumption) (by first | omega | (simp; done) | (simp; omega) | exact Below.size (by assumption) | exact Nat.le_trans (Below.size (by assumption)) (by simp)))))
  have gq0 : Hid (G7 w0 w.heap.size (.slice p P.length c) (.int .i64 l) (.slice x F.length c2) (.slice z W.length c3) (.int .i64 m) (.slice ga (lvL P l).length ca) (.slice va (tbS S F).length cv)) := by
    rw [hw0]
    exact p1.out.below (show Below (w.alloc (.cells #[.slice p P.length c, .int .i64 l, .slice x F.length c2, .slice z W.length c3, .int .i64 m, .slice ga (lvL P l).length ca, .slice va (tbS S F).length cv] 91)).heap.size (w.alloc (.cells #[.slice p P.length c, .int .i64 l, .slice x F.length c2, .slice z W.length c3, .int .i64 m, .slice ga (lvL P l).length ca, .slice va (tbS S F).length cv] 91)) _ from (by repeat (first | exact Below.refl _ _ | assumption | refine Below.drew ?_ | refine below_drewN ?_ _ | refine Below.alloc' ?_ _ | (refine Below.setCell ?_ (by first | omega | (simp; done) | (simp; omega) | exact Below.size (by assumption) | exact Nat.le_trans (Below.size (by assumption)) (by simp)) _) | (refine Below.via' ?_ (by assumption)) | (refine Below.alloc ?_ (by first | omega | (simp; done) | (simp; omega) | exact Below.size (by assumption) | exact Nat.le_trans (Below.size (by assumption)) (by simp)) _) | (refine Below.via ?_ (by assumption) (by first | omega | (simp; done) | (simp; omega) | exact Below.size (by assumption) | exact Nat.le_trans (Below.size (by assumption)) (by simp))))))
  have rq0 : Hid (RB w0 (w.heap.size + 1) k h v V.length c4) := by
    have h0 := p2.out
    rw [World.size_alloc, ← hw0] at h0
    exact h0
  have z0 : w0.heap.size = w.heap.size + 1 + 1 := by rw [hw0]; simp
  clear p1 p2
  have hPh := Lib.hid hP
  have hFh := Lib.hid hF
  have hWh := Lib.hid hW
  have hAh := Lib.hid hA
  have hTh := Lib.hid hT
  have hVh := Lib.hid hV
  have hth := Lib.hid htg
  have hclh := Lib.hid hcl
  have hfn := Lib.hid (tw_fine htg.s htg.w hcl.f)
  have hip := Lib.hid (inP_of htg.s htg.r (fit_len hcl.f))
  have haa := clp_aa (l := l) htg.g hcl.a
  have hm0 := htg.m0
  clear hP hF hW hA hT hV htg hcl
  by_cases hz : 0 ≤ anZ P k l
  · have haa1 := Lib.hid (haa.1.trans (decide_eq_true hz))
    have haa2 := Lib.hid (haa.2 hz)
    clear haa
    go_enter Try.func89, Try.ntmps89
    go_wp2_with fail
    rw [← hw0]
    replace hw0 := Lib.hid hw0
    replace z0 := Lib.hid z0
    refine (iAA_x _ _ P (k : Int) l _ (hPh.out.below B0)).mono ?_
    rintro e w1 ⟨rfl, hb1⟩
    rw [haa1.out, haa2.out]
    have B1 : Below w.heap.size w w1 := Below.via' B0 hb1
    have gq1 := Lib.hid (gq0.out.below hb1)
    have rq1 := Lib.hid (rq0.out.below hb1)
    obtain ⟨i01, i11, i21, i31, i41, i51, i61, il1⟩ := gq1.out
    obtain ⟨ra1, rb1, rc1, rd1⟩ := rq1.out
    try clear i00 i10 i20 i30 i40 i50 i60 il0 ra0 rb0 rc0 rd0
    clear hb1
    go_wp2_with fail
    refine (meetsWhere_any _ _ _ _ _ _ _ _ _ _ _ W V _ hfn.out (hWh.out.below B1) (hVh.out.below B1)).mono ?_
    rintro e w2 ⟨rfl, hb2⟩
    have hs2 := hb2.size
    have hs1 := B1.size
    have B2 : Below w.heap.size w w2 := Below.via' B1 hb2
    have gq2 := Lib.hid (gq1.out.below hb2)
    have rq2 := Lib.hid (rq1.out.below hb2)
    obtain ⟨i02, i12, i22, i32, i42, i52, i62, il2⟩ := gq2.out
    obtain ⟨ra2, rb2, rc2, rd2⟩ := rq2.out
    try clear i01 i11 i21 i31 i41 i51 i61 il1 ra1 rb1 rc1 rd1
    clear hb2
    cases hm : tmB W V
    · have hv := Lib.hid (clp_no (P := P) (S := S) (l := l) (F := F) (W := W) (m := m) (k := k) (V := V) (fun q => by rw [hm] at q; cases q.2))
      go_wp2
      go_ret2
      exact ⟨ret_ii hv.out.1.symm hv.out.2.symm, B2⟩
    have hv1 := Lib.hid (clp_yes (S := S) (F := F) hz hm)
    have hone := fun q => clp_one (P := P) (l := l) (m := m) hz hm q
    have hval := fun (v : Int) (q : 0 ≤ m) => clp_val (P := P) (l := l) (v := v) hz hm q
    have hone := Lib.hid hone
    have hval := Lib.hid hval
    have hlv := Lib.hid (List.contains_iff_mem.2 (an_lv hth.out.g hclh.out.a hz))
    have hft := Lib.hid (tbV_fit hclh.out.f hth.out.r)
    replace hm := Lib.hid hm
    have hzl : w.heap.size < w2.heap.size := by have := il2; omega
    have hzl1 : w.heap.size + 1 < w2.heap.size := rd2
    go_wp2
    go_region_held3 (fun w' => Below (w2).heap.size (w2) w' ∧ (∀ b o, b < (w2).heap.size → w'.cell? ⟨b, o, none⟩ = (w2).cell? ⟨b, o, none⟩)) (first | exact keep_of (Below.refl _ _) | ((try go_split_ands); exact keep_of (by repeat (first | exact Below.refl _ _ | assumption | refine Below.drew ?_ | refine below_drewN ?_ _ | refine Below.alloc' ?_ _ | (refine Below.setCell ?_ (by first | omega | (simp; done) | (simp; omega) | exact Below.size (by assumption) | exact Nat.le_trans (Below.size (by assumption)) (by simp)) _) | (refine Below.via' ?_ (by assumption)) | (refine Below.alloc ?_ (by first | omega | (simp; done) | (simp; omega) | exact Below.size (by assumption) | exact Nat.le_trans (Below.size (by assumption)) (by simp)) _) | (refine Below.via ?_ (by assumption) (by first | omega | (simp; done) | (simp; omega) | exact Below.size (by assumption) | exact Nat.le_trans (Below.size (by assumption)) (by simp))))))) (first | (go_at_call 124; refine (elemsI_l _ _ _ _ V F _ hip.out (hVh.out.below (by exact (by repeat (first | exact Below.refl _ _ | assumption | refine Below.drew ?_ | refine below_drewN ?_ _ | refine Below.alloc' ?_ _ | (refine Below.setCell ?_ (by first | omega | (simp; done) | (simp; omega) | exact Below.size (by assumption) | exact Nat.le_trans (Below.size (by assumption)) (by simp)) _) | (refine Below.via' ?_ (by assumption)) | (refine Below.alloc ?_ (by first | omega | (simp; done) | (simp; omega) | exact Below.size (by assumption) | exact Nat.le_trans (Below.size (by assumption)) (by simp)) _) | (refine Below.via ?_ (by assumption) (by first | omega | (simp; done) | (simp; omega) | exact Below.size (by assumption) | exact Nat.le_trans (Below.size (by assumption)) (by simp))))))) (hFh.out.2.2.below (by exact (by repeat (first | exact Below.refl _ _ | assumption | refine Below.drew ?_ | refine below_drewN ?_ _ | refine Below.alloc' ?_ _ | (refine Below.setCell ?_ (by first | omega | (simp; done) | (simp; omega) | exact Below.size (by assumption) | exact Nat.le_trans (Below.size (by assumption)) (by simp)) _) | (refine Below.via' ?_ (by assumption)) | (refine Below.alloc ?_ (by first | omega | (simp; done) | (simp; omega) | exact Below.size (by assumption) | exact Nat.le_trans (Below.size (by assumption)) (by simp)) _) | (refine Below.via ?_ (by assumption) (by first | omega | (simp; done) | (simp; omega) | exact Below.size (by assumption) | exact Nat.le_trans (Below.size (by assumption)) (by simp)))))))).mono ?_; rintro e w3 ⟨rfl, hr3, hb3⟩; (have hr3 := Lib.hid hr3)) | (go_at_call 78; refine (gindex_any _ _ _ _ _ _ _ _ _ _ _ _ P S l F W m (anZ P k l) (tbV V F) _ hth.out hlv.out hft.out (hAh.out.below (by exact (by repeat (first | exact Below.refl _ _ | assumption | refine Below.drew ?_ | refine below_drewN ?_ _ | refine Below.alloc' ?_ _ | (refine Below.setCell ?_ (by first | omega | (simp; done) | (simp; omega) | exact Below.size (by assumption) | exact Nat.le_trans (Below.size (by assumption)) (by simp)) _) | (refine Below.via' ?_ (by assumption)) | (refine Below.alloc ?_ (by first | omega | (simp; done) | (simp; omega) | exact Below.size (by assumption) | exact Nat.le_trans (Below.size (by assumption)) (by simp)) _) | (refine Below.via ?_ (by assumption) (by first | omega | (simp; done) | (simp; omega) | exact Below.size (by assumption) | exact Nat.le_trans (Below.size (by assumption)) (by simp))))))) (hTh.out.below (by exact (by repeat (first | exact Below.refl _ _ | assumption | refine Below.drew ?_ | refine below_drewN ?_ _ | refine Below.alloc' ?_ _ | (refine Below.setCell ?_ (by first | omega | (simp; done) | (simp; omega) | exact Below.size (by assumption) | exact Nat.le_trans (Below.size (by assumption)) (by simp)) _) | (refine Below.via' ?_ (by assumption)) | (refine Below.alloc ?_ (by first | omega | (simp; done) | (simp; omega) | exact Below.size (by assumption) | exact Nat.le_trans (Below.size (by assumption)) (by simp)) _) | (refine Below.via ?_ (by assumption) (by first | omega | (simp; done) | (simp; omega) | exact Below.size (by assumption) | exact Nat.le_trans (Below.size (by assumption)) (by simp))))))) ⟨by rw [tbV_len]; have := hip.out.1; omega, tbI64 hVh.out.2.1, hr3.out.below (by exact (by repeat (first | exact Below.refl _ _ | assumption | refine Below.drew ?_ | refine below_drewN ?_ _ | refine Below.alloc' ?_ _ | (refine Below.setCell ?_ (by first | omega | (simp; done) | (simp; omega) | exact Below.size (by assumption) | exact Nat.le_trans (Below.size (by assumption)) (by simp)) _) | (refine Below.via' ?_ (by assumption)) | (refine Below.alloc ?_ (by first | omega | (simp; done) | (simp; omega) | exact Below.size (by assumption) | exact Nat.le_trans (Below.size (by assumption)) (by simp)) _) | (refine Below.via ?_ (by assumption) (by first | omega | (simp; done) | (simp; omega) | exact Below.size (by assumption) | exact Nat.le_trans (Below.size (by assumption)) (by simp))))))⟩).mono ?_; rintro e w4 ⟨rfl, hb4⟩)); rename_i hH; obtain ⟨hb5, hcl5⟩ := hH; have hz5 := hb5.size; (try simp at hz5); (try (have hly5 := Nat.lt_of_succ_le hz5)); (try (have hlx5 := Nat.lt_of_succ_lt hly5)); (try (have hlw5 := Nat.lt_of_succ_lt hlx5)); (try (have hle5 := Nat.le_of_lt hly5)); (try (have hya5 : w.heap.size < w5.heap.size := by omega)); (try (have hyb5 : w.heap.size + 1 < w5.heap.size := by omega)); (try (have hyc5 : w.heap.size + 1 + 1 < w5.heap.size := by omega)); (try (have hyd5 : wa.heap.size < w5.heap.size := by omega))
    have B5 : Below w.heap.size w w4 := (by repeat (first | exact Below.refl _ _ | assumption | refine Below.drew ?_ | refine below_drewN ?_ _ | refine Below.alloc' ?_ _ | (refine Below.setCell ?_ (by first | omega | (simp; done) | (simp; omega) | exact Below.size (by assumption) | exact Nat.le_trans (Below.size (by assumption)) (by simp)) _) | (refine Below.via' ?_ (by assumption)) | (refine Below.alloc ?_ (by first | omega | (simp; done) | (simp; omega) | exact Below.size (by assumption) | exact Nat.le_trans (Below.size (by assumption)) (by simp)) _) | (refine Below.via ?_ (by assumption) (by first | omega | (simp; done) | (simp; omega) | exact Below.size (by assumption) | exact Nat.le_trans (Below.size (by assumption)) (by simp)))))
    have B25 : Below w2.heap.size w2 w4 := (by repeat (first | exact Below.refl _ _ | assumption | refine Below.drew ?_ | refine below_drewN ?_ _ | refine Below.alloc' ?_ _ | (refine Below.setCell ?_ (by first | omega | (simp; done) | (simp; omega) | exact Below.size (by assumption) | exact Nat.le_trans (Below.size (by assumption)) (by simp)) _) | (refine Below.via' ?_ (by assumption)) | (refine Below.alloc ?_ (by first | omega | (simp; done) | (simp; omega) | exact Below.size (by assumption) | exact Nat.le_trans (Below.size (by assumption)) (by simp)) _) | (refine Below.via ?_ (by assumption) (by first | omega | (simp; done) | (simp; omega) | exact Below.size (by assumption) | exact Nat.le_trans (Below.size (by assumption)) (by simp)))))
    obtain ⟨j0, j1, j2, j3, j4, j5, j6, jl⟩ := gq2.out.below B25
    obtain ⟨ra5, rb5, rc5, rd5⟩ := rq2.out.below B25
    by_cases hmm : m = -1
    · have hm1 : (m == -1) = true := by rw [beq_iff_eq]; exact hmm
      have hv2 := Lib.hid (hone.out (by omega))
      replace hmm := Lib.hid hmm
      go_wp2
      go_ret2
      exact ⟨ret_ii hv1.out.symm hv2.out.symm, B5⟩
    have hm1 : (m == -1) = false := by rw [beq_eq_false_iff_ne]; exact hmm
    obtain ⟨q, rfl⟩ := Int.eq_ofNat_of_zero_le (show 0 ≤ m by omega)
    have hql : q < V.length := by have := hth.out.m1; have := fit_len hclh.out.f; omega
    obtain ⟨b6, o6, u6, hv6, hb6, hu6, k6⟩ := (hVh.out.2.2.below B5).int (i := q) hql
    subst hv6
    have hv2 := Lib.hid (hval.out u6 (by omega) (by rw [Int.toNat_natCast]; exact hu6))
    have hq1 : (q : Int) < (V.length : Int) := by omega
    have hq0 : (0 : Int) ≤ (q : Int) := by omega
    replace hu6 := Lib.hid hu6
    replace hmm := Lib.hid hmm
    go_wp2
    go_quiet (fail)
    go_wp2
    go_ret2
    exact ⟨ret_ii hv1.out.symm hv2.out.symm, (by repeat (first | exact Below.refl _ _ | assumption | refine Below.drew ?_ | refine below_drewN ?_ _ | refine Below.alloc' ?_ _ | (refine Below.setCell ?_ (by first | omega | (simp; done) | (simp; omega) | exact Below.size (by assumption) | exact Nat.le_trans (Below.size (by assumption)) (by simp)) _) | (refine Below.via' ?_ (by assumption)) | (refine Below.alloc ?_ (by first | omega | (simp; done) | (simp; omega) | exact Below.size (by assumption) | exact Nat.le_trans (Below.size (by assumption)) (by simp)) _) | (refine Below.via ?_ (by assumption) (by first | omega | (simp; done) | (simp; omega) | exact Below.size (by assumption) | exact Nat.le_trans (Below.size (by assumption)) (by simp)))))⟩
  · have haa1 := Lib.hid (haa.1.trans (decide_eq_false hz))
    clear haa
    have hv := Lib.hid (clp_no (P := P) (S := S) (l := l) (F := F) (W := W) (m := m) (k := k) (V := V) (fun q => hz q.1))
    go_enter Try.func89, Try.ntmps89
    go_wp2_with fail
    rw [← hw0]
    replace hw0 := Lib.hid hw0
    refine (iAA_x _ _ P (k : Int) l _ (hPh.out.below B0)).mono ?_
    rintro e w1 ⟨rfl, hb1⟩
    rw [haa1.out]
    go_wp2
    go_ret2
    exact ⟨ret_ii hv.out.1.symm hv.out.2.symm, Below.via' B0 hb1⟩
end Go.Proofs.Ytgkaalonmkcclaa
