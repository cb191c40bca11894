import Derived.Test.YtpmbenedeakieaaPoK
import Derived.Test.YtpmbenedeakieaaPoG
import Derived.Test.YtpmbenedeakieaaPoT
import Derived.Test.YtpmbenedeakieaaEdV
import Derived.Test.YtpmbenedeakieaaApp
import Derived.Deep.RegionHeld
import Derived.Deep.RegionWith
import Derived.Test.YtpmbenedeakieaaEdI
namespace Go.Proofs.Ytpmbenedeakieaa
open Go.RowKit
set_option maxRecDepth 100000

/-- What CellIndex answers. -/
def tciB (P : List Int) (S : List (ByteArray × Int)) (l : Int) (F W : List Int) (m a : Int) (V : List Int) : Bool := tgB P S l F W m && ((lvL P l).contains a && fitB (tbS S F) V)
def tciN (P : List Int) (S : List (ByteArray × Int)) (l : Int) (F W : List Int) (m a : Int) (V : List Int) : Int := if tciB P S l F W m a V then ceZ P S l F a V else 0
section
variable {P : List Int} {S : List (ByteArray × Int)} {l : Int} {F W : List Int} {m a : Int} {V : List Int}
theorem tci_no1 (h : tgB P S l F W m = false) : tciN P S l F W m a V = 0 ∧ tciB P S l F W m a V = false := by
  have e : tciB P S l F W m a V = false := by unfold tciB; rw [h]; rfl
  exact ⟨if_f e, e⟩
theorem tci_no2 (h : (lvL P l).contains a = false) : tciN P S l F W m a V = 0 ∧ tciB P S l F W m a V = false := by
  have e : tciB P S l F W m a V = false := by unfold tciB; rw [h, Bool.false_and, Bool.and_false]
  exact ⟨if_f e, e⟩
theorem tci_no3 (h : fitB (tbS S F) V = false) : tciN P S l F W m a V = 0 ∧ tciB P S l F W m a V = false := by
  have e : tciB P S l F W m a V = false := by unfold tciB; rw [h, Bool.and_false, Bool.and_false]
  exact ⟨if_f e, e⟩
theorem tci_yes (h : tgB P S l F W m = true) (h2 : (lvL P l).contains a = true) (h3 : fitB (tbS S F) V = true) : tciN P S l F W m a V = ceZ P S l F a V ∧ tciB P S l F W m a V = true := by
  have e : tciB P S l F W m a V = true := by unfold tciB; rw [h, h2, h3]; rfl
  exact ⟨if_t e, e⟩
end
theorem fdI_lt {L : List Int} {a : Int} (h : L.contains a = false) : fdI L a < 0 := by
  rw [fdI_miss (fun k => by rw [← List.contains_iff_mem, h] at k; cases k)]
  omega
theorem fdI_ge {L : List Int} {a : Int} (h : L.contains a = true) : 0 ≤ fdI L a := fdI_neg.2 (List.contains_iff_mem.1 h)

set_option maxHeartbeats 4000000 in
theorem gindex_any (p x z ga va v : Option Addr) (c c2 c3 ca cv c4 : Nat) (P : List Int) (S : List (ByteArray × Int)) (l : Int) (F W : List Int) (m a : Int) (V : List Int) (w : World) (htg : TgP P S l F W m) (ha : (lvL P l).contains a = true) (hf : fitB (tbS S F) V = true) (hA : IIn w ga (lvL P l)) (hP : Rd w va (vC (tbS S F))) (hV : IIn w v V) :
    Calls Try.prog 151 #[.agg #[.slice p P.length c, .int .i64 l, .slice x F.length c2, .slice z W.length c3, .int .i64 m, .slice ga (lvL P l).length ca, .slice va (tbS S F).length cv], .int .i64 a, .slice v V.length c4] w fun e w' => e = .returned (.int .i64 (ceZ P S l F a V)) ∧ Below w.heap.size w w' := by
  have hb := ce_bd htg (List.contains_iff_mem.1 ha) hf
  have hc := htg.c
  have q1 : IntKind.i64.wrap (fdI (lvL P l) a * cnZ (tbS S F)) = fdI (lvL P l) a * cnZ (tbS S F) := IntWalk.i64_in _ (by omega)
  have q2 : IntKind.i64.wrap (fdI (lvL P l) a * cnZ (tbS S F) + ixZ (tbS S F) V) = fdI (lvL P l) a * cnZ (tbS S F) + ixZ (tbS S F) V := IntWalk.i64_in _ (by unfold ceZ at hb; omega)
  have hpt := Lib.hid (tbS_ok htg.s htg.r)
  have hfh := Lib.hid hf
  have hAh := Lib.hid hA
  have hPh := Lib.hid hP
  have hVh := Lib.hid hV
  clear htg ha hf hA hP hV hb hc
  go_enter Try.func151, Try.ntmps151
  go_wp2
  go_region_held3 (fun w' => Below ((w.alloc (.cells #[.slice p P.length c, .int .i64 l, .slice x F.length c2, .slice z W.length c3, .int .i64 m, .slice ga (lvL P l).length ca, .slice va (tbS S F).length cv] 104))).heap.size ((w.alloc (.cells #[.slice p P.length c, .int .i64 l, .slice x F.length c2, .slice z W.length c3, .int .i64 m, .slice ga (lvL P l).length ca, .slice va (tbS S F).length cv] 104))) w' ∧ (∀ b o, b < ((w.alloc (.cells #[.slice p P.length c, .int .i64 l, .slice x F.length c2, .slice z W.length c3, .int .i64 m, .slice ga (lvL P l).length ca, .slice va (tbS S F).length cv] 104))).heap.size → w'.cell? ⟨b, o, none⟩ = ((w.alloc (.cells #[.slice p P.length c, .int .i64 l, .slice x F.length c2, .slice z W.length c3, .int .i64 m, .slice ga (lvL P l).length ca, .slice va (tbS S F).length cv] 104))).cell? ⟨b, o, none⟩)) (first | exact keep_of (Below.refl _ _) | ((try go_split_ands); exact keep_of (by repeat (first | exact Below.refl _ _ | assumption | refine Below.drew ?_ | refine below_drewN ?_ _ | refine Below.alloc' ?_ _ | (refine Below.setCell ?_ (by first | omega | (simp; done) | (simp; omega) | exact Below.size (by assumption) | exact Nat.le_trans (Below.size (by assumption)) (by simp)) _) | (refine Below.via' ?_ (by assumption)) | (refine Below.alloc ?_ (by first | omega | (simp; done) | (simp; omega) | exact Below.size (by assumption) | exact Nat.le_trans (Below.size (by assumption)) (by simp)) _) | (refine Below.via ?_ (by assumption) (by first | omega | (simp; done) | (simp; omega) | exact Below.size (by assumption) | exact Nat.le_trans (Below.size (by assumption)) (by simp))))))) (first | (go_at_call 162; refine (indexAt_any _ _ (lvL P l) a _ (hAh.out.below (by exact (by repeat (first | exact Below.refl _ _ | assumption | refine Below.drew ?_ | refine below_drewN ?_ _ | refine Below.alloc' ?_ _ | (refine Below.setCell ?_ (by first | omega | (simp; done) | (simp; omega) | exact Below.size (by assumption) | exact Nat.le_trans (Below.size (by assumption)) (by simp)) _) | (refine Below.via' ?_ (by assumption)) | (refine Below.alloc ?_ (by first | omega | (simp; done) | (simp; omega) | exact Below.size (by assumption) | exact Nat.le_trans (Below.size (by assumption)) (by simp)) _) | (refine Below.via ?_ (by assumption) (by first | omega | (simp; done) | (simp; omega) | exact Below.size (by assumption) | exact Nat.le_trans (Below.size (by assumption)) (by simp)))))))).mono ?_; rintro e w1 ⟨rfl, rfl⟩) | (go_at_call 122; refine (countComb_p _ _ (tbS S F) _ hpt.out (hPh.out.below (by exact (by repeat (first | exact Below.refl _ _ | assumption | refine Below.drew ?_ | refine below_drewN ?_ _ | refine Below.alloc' ?_ _ | (refine Below.setCell ?_ (by first | omega | (simp; done) | (simp; omega) | exact Below.size (by assumption) | exact Nat.le_trans (Below.size (by assumption)) (by simp)) _) | (refine Below.via' ?_ (by assumption)) | (refine Below.alloc ?_ (by first | omega | (simp; done) | (simp; omega) | exact Below.size (by assumption) | exact Nat.le_trans (Below.size (by assumption)) (by simp)) _) | (refine Below.via ?_ (by assumption) (by first | omega | (simp; done) | (simp; omega) | exact Below.size (by assumption) | exact Nat.le_trans (Below.size (by assumption)) (by simp)))))))).mono ?_; rintro e w2 ⟨rfl, hb2⟩) | (go_at_call 172; refine (cix_p _ _ _ _ (tbS S F) V _ hpt.out hfh.out (hPh.out.below (by exact (by repeat (first | exact Below.refl _ _ | assumption | refine Below.drew ?_ | refine below_drewN ?_ _ | refine Below.alloc' ?_ _ | (refine Below.setCell ?_ (by first | omega | (simp; done) | (simp; omega) | exact Below.size (by assumption) | exact Nat.le_trans (Below.size (by assumption)) (by simp)) _) | (refine Below.via' ?_ (by assumption)) | (refine Below.alloc ?_ (by first | omega | (simp; done) | (simp; omega) | exact Below.size (by assumption) | exact Nat.le_trans (Below.size (by assumption)) (by simp)) _) | (refine Below.via ?_ (by assumption) (by first | omega | (simp; done) | (simp; omega) | exact Below.size (by assumption) | exact Nat.le_trans (Below.size (by assumption)) (by simp))))))) (hVh.out.below (by exact (by repeat (first | exact Below.refl _ _ | assumption | refine Below.drew ?_ | refine below_drewN ?_ _ | refine Below.alloc' ?_ _ | (refine Below.setCell ?_ (by first | omega | (simp; done) | (simp; omega) | exact Below.size (by assumption) | exact Nat.le_trans (Below.size (by assumption)) (by simp)) _) | (refine Below.via' ?_ (by assumption)) | (refine Below.alloc ?_ (by first | omega | (simp; done) | (simp; omega) | exact Below.size (by assumption) | exact Nat.le_trans (Below.size (by assumption)) (by simp)) _) | (refine Below.via ?_ (by assumption) (by first | omega | (simp; done) | (simp; omega) | exact Below.size (by assumption) | exact Nat.le_trans (Below.size (by assumption)) (by simp)))))))).mono ?_; rintro e w3 ⟨rfl, hb3⟩)); rename_i hH; obtain ⟨hb4, hcl4⟩ := hH; have hz4 := hb4.size; (try simp at hz4); (try (have hly4 := Nat.lt_of_succ_le hz4)); (try (have hlx4 := Nat.lt_of_succ_lt hly4)); (try (have hlw4 := Nat.lt_of_succ_lt hlx4)); (try (have hle4 := Nat.le_of_lt hly4)); (try (have hya4 : w.heap.size < w4.heap.size := by omega)); (try (have hyb4 : w.heap.size + 1 < w4.heap.size := by omega)); (try (have hyc4 : w.heap.size + 1 + 1 < w4.heap.size := by omega)); (try (have hyd4 : wa.heap.size < w4.heap.size := by omega))
  go_wp2
  go_ret
  exact ⟨rfl, (by repeat (first | exact Below.refl _ _ | assumption | refine Below.drew ?_ | refine below_drewN ?_ _ | refine Below.alloc' ?_ _ | (refine Below.setCell ?_ (by first | omega | (simp; done) | (simp; omega) | exact Below.size (by assumption) | exact Nat.le_trans (Below.size (by assumption)) (by simp)) _) | (refine Below.via' ?_ (by assumption)) | (refine Below.alloc ?_ (by first | omega | (simp; done) | (simp; omega) | exact Below.size (by assumption) | exact Nat.le_trans (Below.size (by assumption)) (by simp)) _) | (refine Below.via ?_ (by assumption) (by first | omega | (simp; done) | (simp; omega) | exact Below.size (by assumption) | exact Nat.le_trans (Below.size (by assumption)) (by simp)))))⟩

end Go.Proofs.Ytpmbenedeakieaa

namespace Go.Proofs.Ytpmbenedeakieaa
open Go.RowKit
set_option maxRecDepth 100000

theorem elemsI_l (x y : Option Addr) (c1 c2 : Nat) (V F : List Int) (w : World) (hp : InP V.length F) (hV : IIn w y V) (hF : Rd w x (iC F)) :
    Calls Try.prog 152 #[.slice y V.length c1, .slice x F.length c2] w fun e w' => e = .returned (.slice (some ⟨w.heap.size, 0, none⟩) (tbV V F).length (tbV V F).length) ∧ Rd w' (some ⟨w.heap.size, 0, none⟩) (iC (tbV V F)) ∧ Below w.heap.size w w' := by
  refine (elemsI_any x y c1 c2 V F w hp hV hF).mono ?_
  rintro e w' ⟨rfl, ho, hb⟩
  exact ⟨by rw [tbV_len], Rd.of_own ho, hb⟩
theorem ret_ii {a b d e : Int} (h : a = b) (k : d = e) : Ending.returned (.tuple #[.int .i64 a, .int .i64 d]) = .returned (.tuple #[.int .i64 b, .int .i64 e]) := by rw [h, k]
/-- A record that goes with a table: its area is one, its values fit. -/
structure ClP (P : List Int) (S : List (ByteArray × Int)) (k : Nat) (V : List Int) : Prop where
  a : k < P.length
  f : fitB S V = true
section
variable {P : List Int} {S : List (ByteArray × Int)} {l : Int} {F W : List Int} {m : Int} {k : Nat} {V : List Int}
theorem clp_no (h : ¬ (0 ≤ anZ P k l ∧ tmB W V = true)) : clI P S l F W (k : Int) V = -1 ∧ clN P l W m (k : Int) V = 0 := by
  refine cl_no ?_
  rw [Int.toNat_natCast]
  exact h
theorem clp_yes (h : 0 ≤ anZ P k l) (h2 : tmB W V = true) : clI P S l F W (k : Int) V = ceZ P S l F (anZ P k l) (tbV V F) := by
  have := cl_yes (P := P) (S := S) (l := l) (F := F) (a := (k : Int)) (by rw [Int.toNat_natCast]; exact h) h2
  rwa [Int.toNat_natCast] at this
theorem clp_one (h : 0 ≤ anZ P k l) (h2 : tmB W V = true) (hm : m < 0) : clN P l W m (k : Int) V = 1 := cl_one (by rw [Int.toNat_natCast]; exact h) h2 hm
theorem clp_val {v : Int} (h : 0 ≤ anZ P k l) (h2 : tmB W V = true) (hm : 0 ≤ m) (hv : V[m.toNat]? = some v) : clN P l W m (k : Int) V = v := cl_val (by rw [Int.toNat_natCast]; exact h) h2 hm hv
theorem clp_aa (hg : geB P = true) (ha : k < P.length) : aaB P k l = decide (0 ≤ anZ P k l) ∧ (0 ≤ anZ P k l → aaZ P k l = anZ P k l) := by
  have hga := ga_yes hg ((inB_iff (k : Int) 0 ((P.length : Int) - 1)).2 ⟨by omega, by omega⟩)
  have hb := (an_bd hg ha l).2.2
  by_cases h : 0 ≤ l ∧ l ≤ dpN P k
  · have := aa_yes hga h.1 h.2
    exact ⟨by rw [this.1, decide_eq_true (hb.2 h)], fun _ => this.2⟩
  · have := aa_no2 (P := P) (k := k) h
    have hn : ¬ 0 ≤ anZ P k l := fun q => h (hb.1 q)
    exact ⟨by rw [this.1, decide_eq_false hn], fun q => absurd q hn⟩
end

set_option maxHeartbeats 16000000 in
theorem contrib_any (p x z ga va v : Option Addr) (c c2 c3 ca cv c4 : Nat) (P : List Int) (S : List (ByteArray × Int)) (l : Int) (F W : List Int) (m : Int) (k : Nat) (h : Int) (V : List Int) (w : World) (htg : TgP P S l F W m) (hcl : ClP P S k V) (hP : IIn w p P) (hF : IIn w x F) (hW : IIn w z W) (hA : IIn w ga (lvL P l)) (hT : Rd w va (vC (tbS S F))) (hV : IIn w v V) :
    Calls Try.prog 104 #[.agg #[.slice p P.length c, .int .i64 l, .slice x F.length c2, .slice z W.length c3, .int .i64 m, .slice ga (lvL P l).length ca, .slice va (tbS S F).length cv], .agg #[.int .i64 k, .int .i64 h, .slice v V.length c4]] w fun e w' => e = .returned (.tuple #[.int .i64 (clI P S l F W (k : Int) V), .int .i64 (clN P l W m (k : Int) V)]) ∧ Below w.heap.size w w' := by
  have p1 := Lib.hid (g7_of_wb (Wb.new w 104 #[.slice p P.length c, .int .i64 l, .slice x F.length c2, .slice z W.length c3, .int .i64 m, .slice ga (lvL P l).length ca, .slice va (tbS S F).length cv]))
  have p2 := Lib.hid (RB.new (w.alloc (.cells #[.slice p P.length c, .int .i64 l, .slice x F.length c2, .slice z W.length c3, .int .i64 m, .slice ga (lvL P l).length ca, .slice va (tbS S F).length cv] 104)) k h v V.length c4 85)
  obtain ⟨w0, hw0⟩ : ∃ w0, w0 = (w.alloc (.cells #[.slice p P.length c, .int .i64 l, .slice x F.length c2, .slice z W.length c3, .int .i64 m, .slice ga (lvL P l).length ca, .slice va (tbS S F).length cv] 104)).alloc (.cells #[.int .i64 k, .int .i64 h, .slice v V.length c4] 85) := ⟨_, rfl⟩
  have B0 : Below w.heap.size w w0 := by rw [hw0]; exact (by repeat (first | exact Below.refl _ _ | assumption | refine Below.drew ?_ | refine below_drewN ?_ _ | refine Below.alloc' ?_ _ | (refine Below.setCell ?_ (by first | omega | (simp; done) | (simp; omega) | exact Below.size (by assumption) | exact Nat.le_trans (Below.size (by assumption)) (by simp)) _) | (refine Below.via' ?_ (by assumption)) | (refine Below.alloc ?_ (by first | omega | (simp; done) | (simp; omega) | exact Below.size (by assumption) | exact Nat.le_trans (Below.size (by assumption)) (by simp)) _) | (refine Below.via ?_ (by assumption) (by first | omega | (simp; done) | (simp; omega) | exact Below.size (by assumption) | exact Nat.le_trans (Below.size (by assumption)) (by simp)))))
  have gq0 : Hid (G7 w0 w.heap.size (.slice p P.length c) (.int .i64 l) (.slice x F.length c2) (.slice z W.length c3) (.int .i64 m) (.slice ga (lvL P l).length ca) (.slice va (tbS S F).length cv)) := by
    rw [hw0]
    exact p1.out.below (show Below (w.alloc (.cells #[.slice p P.length c, .int .i64 l, .slice x F.length c2, .slice z W.length c3, .int .i64 m, .slice ga (lvL P l).length ca, .slice va (tbS S F).length cv] 104)).heap.size (w.alloc (.cells #[.slice p P.length c, .int .i64 l, .slice x F.length c2, .slice z W.length c3, .int .i64 m, .slice ga (lvL P l).length ca, .slice va (tbS S F).length cv] 104)) _ from (by repeat (first | exact Below.refl _ _ | assumption | refine Below.drew ?_ | refine below_drewN ?_ _ | refine Below.alloc' ?_ _ | (refine Below.setCell ?_ (by first | omega | (simp; done) | (simp; omega) | exact Below.size (by assumption) | exact Nat.le_trans (Below.size (by assumption)) (by simp)) _) | (refine Below.via' ?_ (by assumption)) | (refine Below.alloc ?_ (by first | omega | (simp; done) | (simp; omega) | exact Below.size (by assumption) | exact Nat.le_trans (Below.size (by assumption)) (by simp)) _) | (refine Below.via ?_ (by assumption) (by first | omega | (simp; done) | (simp; omega) | exact Below.size (by assumption) | exact Nat.le_trans (Below.size (by assumption)) (by simp))))))
  have rq0 : Hid (RB w0 (w.heap.size + 1) k h v V.length c4) := by
    have h0 := p2.out
    rw [World.size_alloc, ← hw0] at h0
    exact h0
  have z0 : w0.heap.size = w.heap.size + 1 + 1 := by rw [hw0]; simp
  clear p1 p2
  have hPh := Lib.hid hP
  have hFh := Lib.hid hF
  have hWh := Lib.hid hW
  have hAh := Lib.hid hA
  have hTh := Lib.hid hT
  have hVh := Lib.hid hV
  have hth := Lib.hid htg
  have hclh := Lib.hid hcl
  have hfn := Lib.hid (tw_fine htg.s htg.w hcl.f)
  have hip := Lib.hid (inP_of htg.s htg.r (fit_len hcl.f))
  have haa := clp_aa (l := l) htg.g hcl.a
  have hm0 := htg.m0
  clear hP hF hW hA hT hV htg hcl
  by_cases hz : 0 ≤ anZ P k l
  · have haa1 := Lib.hid (haa.1.trans (decide_eq_true hz))
    have haa2 := Lib.hid (haa.2 hz)
    clear haa
    go_enter Try.func104, Try.ntmps104
    go_wp2_with fail
    rw [← hw0]
    replace hw0 := Lib.hid hw0
    replace z0 := Lib.hid z0
    refine (iAA_x _ _ P (k : Int) l _ (hPh.out.below B0)).mono ?_
    rintro e w1 ⟨rfl, hb1⟩
    rw [haa1.out, haa2.out]
    have B1 : Below w.heap.size w w1 := Below.via' B0 hb1
    have gq1 := Lib.hid (gq0.out.below hb1)
    have rq1 := Lib.hid (rq0.out.below hb1)
    obtain ⟨i01, i11, i21, i31, i41, i51, i61, il1⟩ := gq1.out
    obtain ⟨ra1, rb1, rc1, rd1⟩ := rq1.out
    try clear i00 i10 i20 i30 i40 i50 i60 il0 ra0 rb0 rc0 rd0
    clear hb1
    go_wp2_with fail
    refine (meetsWhere_any _ _ _ _ _ _ _ _ _ _ _ W V _ hfn.out (hWh.out.below B1) (hVh.out.below B1)).mono ?_
    rintro e w2 ⟨rfl, hb2⟩
    have hs2 := hb2.size
    have hs1 := B1.size
    have B2 : Below w.heap.size w w2 := Below.via' B1 hb2
    have gq2 := Lib.hid (gq1.out.below hb2)
    have rq2 := Lib.hid (rq1.out.below hb2)
    obtain ⟨i02, i12, i22, i32, i42, i52, i62, il2⟩ := gq2.out
    obtain ⟨ra2, rb2, rc2, rd2⟩ := rq2.out
    try clear i01 i11 i21 i31 i41 i51 i61 il1 ra1 rb1 rc1 rd1
    clear hb2
    cases hm : tmB W V
    · have hv := Lib.hid (clp_no (P := P) (S := S) (l := l) (F := F) (W := W) (m := m) (k := k) (V := V) (fun q => by rw [hm] at q; cases q.2))
      go_wp2
      go_ret2
      exact ⟨ret_ii hv.out.1.symm hv.out.2.symm, B2⟩
    have hv1 := Lib.hid (clp_yes (S := S) (F := F) hz hm)
    have hone := fun q => clp_one (P := P) (l := l) (m := m) hz hm q
    have hval := fun (v : Int) (q : 0 ≤ m) => clp_val (P := P) (l := l) (v := v) hz hm q
    have hone := Lib.hid hone
    have hval := Lib.hid hval
    have hlv := Lib.hid (List.contains_iff_mem.2 (an_lv hth.out.g hclh.out.a hz))
    have hft := Lib.hid (tbV_fit hclh.out.f hth.out.r)
    replace hm := Lib.hid hm
    have hzl : w.heap.size < w2.heap.size := by have := il2; omega
    have hzl1 : w.heap.size + 1 < w2.heap.size := rd2
    go_wp2
    go_region_held3 (fun w' => Below (w2).heap.size (w2) w' ∧ (∀ b o, b < (w2).heap.size → w'.cell? ⟨b, o, none⟩ = (w2).cell? ⟨b, o, none⟩)) (first | exact keep_of (Below.refl _ _) | ((try go_split_ands); exact keep_of (by repeat (first | exact Below.refl _ _ | assumption | refine Below.drew ?_ | refine below_drewN ?_ _ | refine Below.alloc' ?_ _ | (refine Below.setCell ?_ (by first | omega | (simp; done) | (simp; omega) | exact Below.size (by assumption) | exact Nat.le_trans (Below.size (by assumption)) (by simp)) _) | (refine Below.via' ?_ (by assumption)) | (refine Below.alloc ?_ (by first | omega | (simp; done) | (simp; omega) | exact Below.size (by assumption) | exact Nat.le_trans (Below.size (by assumption)) (by simp)) _) | (refine Below.via ?_ (by assumption) (by first | omega | (simp; done) | (simp; omega) | exact Below.size (by assumption) | exact Nat.le_trans (Below.size (by assumption)) (by simp))))))) (first | (go_at_call 152; refine (elemsI_l _ _ _ _ V F _ hip.out (hVh.out.below (by exact (by repeat (first | exact Below.refl _ _ | assumption | refine Below.drew ?_ | refine below_drewN ?_ _ | refine Below.alloc' ?_ _ | (refine Below.setCell ?_ (by first | omega | (simp; done) | (simp; omega) | exact Below.size (by assumption) | exact Nat.le_trans (Below.size (by assumption)) (by simp)) _) | (refine Below.via' ?_ (by assumption)) | (refine Below.alloc ?_ (by first | omega | (simp; done) | (simp; omega) | exact Below.size (by assumption) | exact Nat.le_trans (Below.size (by assumption)) (by simp)) _) | (refine Below.via ?_ (by assumption) (by first | omega | (simp; done) | (simp; omega) | exact Below.size (by assumption) | exact Nat.le_trans (Below.size (by assumption)) (by simp))))))) (hFh.out.2.2.below (by exact (by repeat (first | exact Below.refl _ _ | assumption | refine Below.drew ?_ | refine below_drewN ?_ _ | refine Below.alloc' ?_ _ | (refine Below.setCell ?_ (by first | omega | (simp; done) | (simp; omega) | exact Below.size (by assumption) | exact Nat.le_trans (Below.size (by assumption)) (by simp)) _) | (refine Below.via' ?_ (by assumption)) | (refine Below.alloc ?_ (by first | omega | (simp; done) | (simp; omega) | exact Below.size (by assumption) | exact Nat.le_trans (Below.size (by assumption)) (by simp)) _) | (refine Below.via ?_ (by assumption) (by first | omega | (simp; done) | (simp; omega) | exact Below.size (by assumption) | exact Nat.le_trans (Below.size (by assumption)) (by simp)))))))).mono ?_; rintro e w3 ⟨rfl, hr3, hb3⟩; (have hr3 := Lib.hid hr3)) | (go_at_call 151; refine (gindex_any _ _ _ _ _ _ _ _ _ _ _ _ P S l F W m (anZ P k l) (tbV V F) _ hth.out hlv.out hft.out (hAh.out.below (by exact (by repeat (first | exact Below.refl _ _ | assumption | refine Below.drew ?_ | refine below_drewN ?_ _ | refine Below.alloc' ?_ _ | (refine Below.setCell ?_ (by first | omega | (simp; done) | (simp; omega) | exact Below.size (by assumption) | exact Nat.le_trans (Below.size (by assumption)) (by simp)) _) | (refine Below.via' ?_ (by assumption)) | (refine Below.alloc ?_ (by first | omega | (simp; done) | (simp; omega) | exact Below.size (by assumption) | exact Nat.le_trans (Below.size (by assumption)) (by simp)) _) | (refine Below.via ?_ (by assumption) (by first | omega | (simp; done) | (simp; omega) | exact Below.size (by assumption) | exact Nat.le_trans (Below.size (by assumption)) (by simp))))))) (hTh.out.below (by exact (by repeat (first | exact Below.refl _ _ | assumption | refine Below.drew ?_ | refine below_drewN ?_ _ | refine Below.alloc' ?_ _ | (refine Below.setCell ?_ (by first | omega | (simp; done) | (simp; omega) | exact Below.size (by assumption) | exact Nat.le_trans (Below.size (by assumption)) (by simp)) _) | (refine Below.via' ?_ (by assumption)) | (refine Below.alloc ?_ (by first | omega | (simp; done) | (simp; omega) | exact Below.size (by assumption) | exact Nat.le_trans (Below.size (by assumption)) (by simp)) _) | (refine Below.via ?_ (by assumption) (by first | omega | (simp; done) | (simp; omega) | exact Below.size (by assumption) | exact Nat.le_trans (Below.size (by assumption)) (by simp))))))) ⟨by rw [tbV_len]; have := hip.out.1; omega, tbI64 hVh.out.2.1, hr3.out.below (by exact (by repeat (first | exact Below.refl _ _ | assumption | refine Below.drew ?_ | refine below_drewN ?_ _ | refine Below.alloc' ?_ _ | (refine Below.setCell ?_ (by first | omega | (simp; done) | (simp; omega) | exact Below.size (by assumption) | exact Nat.le_trans (Below.size (by assumption)) (by simp)) _) | (refine Below.via' ?_ (by assumption)) | (refine Below.alloc ?_ (by first | omega | (simp; done) | (simp; omega) | exact Below.size (by assumption) | exact Nat.le_trans (Below.size (by assumption)) (by simp)) _) | (refine Below.via ?_ (by assumption) (by first | omega | (simp; done) | (simp; omega) | exact Below.size (by assumption) | exact Nat.le_trans (Below.size (by assumption)) (by simp))))))⟩).mono ?_; rintro e w4 ⟨rfl, hb4⟩)); rename_i hH; obtain ⟨hb5, hcl5⟩ := hH; have hz5 := hb5.size; (try simp at hz5); (try (have hly5 := Nat.lt_of_succ_le hz5)); (try (have hlx5 := Nat.lt_of_succ_lt hly5)); (try (have hlw5 := Nat.lt_of_succ_lt hlx5)); (try (have hle5 := Nat.le_of_lt hly5)); (try (have hya5 : w.heap.size < w5.heap.size := by omega)); (try (have hyb5 : w.heap.size + 1 < w5.heap.size := by omega)); (try (have hyc5 : w.heap.size + 1 + 1 < w5.heap.size := by omega)); (try (have hyd5 : wa.heap.size < w5.heap.size := by omega))
    have B5 : Below w.heap.size w w4 := (by repeat (first | exact Below.refl _ _ | assumption | refine Below.drew ?_ | refine below_drewN ?_ _ | refine Below.alloc' ?_ _ | (refine Below.setCell ?_ (by first | omega | (simp; done) | (simp; omega) | exact Below.size (by assumption) | exact Nat.le_trans (Below.size (by assumption)) (by simp)) _) | (refine Below.via' ?_ (by assumption)) | (refine Below.alloc ?_ (by first | omega | (simp; done) | (simp; omega) | exact Below.size (by assumption) | exact Nat.le_trans (Below.size (by assumption)) (by simp)) _) | (refine Below.via ?_ (by assumption) (by first | omega | (simp; done) | (simp; omega) | exact Below.size (by assumption) | exact Nat.le_trans (Below.size (by assumption)) (by simp)))))
    have B25 : Below w2.heap.size w2 w4 := (by repeat (first | exact Below.refl _ _ | assumption | refine Below.drew ?_ | refine below_drewN ?_ _ | refine Below.alloc' ?_ _ | (refine Below.setCell ?_ (by first | omega | (simp; done) | (simp; omega) | exact Below.size (by assumption) | exact Nat.le_trans (Below.size (by assumption)) (by simp)) _) | (refine Below.via' ?_ (by assumption)) | (refine Below.alloc ?_ (by first | omega | (simp; done) | (simp; omega) | exact Below.size (by assumption) | exact Nat.le_trans (Below.size (by assumption)) (by simp)) _) | (refine Below.via ?_ (by assumption) (by first | omega | (simp; done) | (simp; omega) | exact Below.size (by assumption) | exact Nat.le_trans (Below.size (by assumption)) (by simp)))))
    obtain ⟨j0, j1, j2, j3, j4, j5, j6, jl⟩ := gq2.out.below B25
    obtain ⟨ra5, rb5, rc5, rd5⟩ := rq2.out.below B25
    by_cases hmm : m = -1
    · have hm1 : (m == -1) = true := by rw [beq_iff_eq]; exact hmm
      have hv2 := Lib.hid (hone.out (by omega))
      replace hmm := Lib.hid hmm
      go_wp2
      go_ret2
      exact ⟨ret_ii hv1.out.symm hv2.out.symm, B5⟩
    have hm1 : (m == -1) = false := by rw [beq_eq_false_iff_ne]; exact hmm
    obtain ⟨q, rfl⟩ := Int.eq_ofNat_of_zero_le (show 0 ≤ m by omega)
    have hql : q < V.length := by have := hth.out.m1; have := fit_len hclh.out.f; omega
    obtain ⟨b6, o6, u6, hv6, hb6, hu6, k6⟩ := (hVh.out.2.2.below B5).int (i := q) hql
    subst hv6
    have hv2 := Lib.hid (hval.out u6 (by omega) (by rw [Int.toNat_natCast]; exact hu6))
    have hq1 : (q : Int) < (V.length : Int) := by omega
    have hq0 : (0 : Int) ≤ (q : Int) := by omega
    replace hu6 := Lib.hid hu6
    replace hmm := Lib.hid hmm
    go_wp2
    go_quiet (fail)
    go_wp2
    go_ret2
    exact ⟨ret_ii hv1.out.symm hv2.out.symm, (by repeat (first | exact Below.refl _ _ | assumption | refine Below.drew ?_ | refine below_drewN ?_ _ | refine Below.alloc' ?_ _ | (refine Below.setCell ?_ (by first | omega | (simp; done) | (simp; omega) | exact Below.size (by assumption) | exact Nat.le_trans (Below.size (by assumption)) (by simp)) _) | (refine Below.via' ?_ (by assumption)) | (refine Below.alloc ?_ (by first | omega | (simp; done) | (simp; omega) | exact Below.size (by assumption) | exact Nat.le_trans (Below.size (by assumption)) (by simp)) _) | (refine Below.via ?_ (by assumption) (by first | omega | (simp; done) | (simp; omega) | exact Below.size (by assumption) | exact Nat.le_trans (Below.size (by assumption)) (by simp)))))⟩
  · have haa1 := Lib.hid (haa.1.trans (decide_eq_false hz))
    clear haa
    have hv := Lib.hid (clp_no (P := P) (S := S) (l := l) (F := F) (W := W) (m := m) (k := k) (V := V) (fun q => hz q.1))
    go_enter Try.func104, Try.ntmps104
    go_wp2_with fail
    rw [← hw0]
    replace hw0 := Lib.hid hw0
    refine (iAA_x _ _ P (k : Int) l _ (hPh.out.below B0)).mono ?_
    rintro e w1 ⟨rfl, hb1⟩
    rw [haa1.out]
    go_wp2
    go_ret2
    exact ⟨ret_ii hv.out.1.symm hv.out.2.symm, Below.via' B0 hb1⟩
end Go.Proofs.Ytpmbenedeakieaa

namespace Go.Proofs.Ytpmbenedeakieaa
open Go.RowKit
set_option maxRecDepth 100000

set_option maxHeartbeats 16000000 in
theorem uCell_any (p y x z v : Option Addr) (c c1 c2 c3 c4 : Nat) (P : List Int) (S : List (ByteArray × Int)) (l : Int) (F W : List Int) (m : Int) (k : Nat) (h : Int) (V : List Int) (w : World) (htg : TgP P S l F W m) (hcl : ClP P S k V) (hP : IIn w p P) (hS : SIn w y c1 S) (hT : TIn w x z F W) (hV : IIn w v V) :
    Calls Try.prog 102 #[.agg #[.slice p P.length c], .slice y S.length c1, .agg #[.int .i64 l, .slice x F.length c2, .slice z W.length c3, .int .i64 m], .agg #[.int .i64 k, .int .i64 h, .slice v V.length c4]] w fun e w' => e = .returned (.tuple #[.int .i64 (clI P S l F W (k : Int) V), .int .i64 (clN P l W m (k : Int) V)]) ∧ Below w.heap.size w w' := by
  have p1 := Lib.hid (QB.new w p P.length c 33)
  have p2 := Lib.hid (TQ.new (w.alloc (.cells #[.slice p P.length c] 33)) l x F.length c2 z W.length c3 m 37)
  have p3 := Lib.hid (RB.new ((w.alloc (.cells #[.slice p P.length c] 33)).alloc (.cells #[.int .i64 l, .slice x F.length c2, .slice z W.length c3, .int .i64 m] 37)) k h v V.length c4 85)
  obtain ⟨w0, hw0⟩ : ∃ w0, w0 = ((w.alloc (.cells #[.slice p P.length c] 33)).alloc (.cells #[.int .i64 l, .slice x F.length c2, .slice z W.length c3, .int .i64 m] 37)).alloc (.cells #[.int .i64 k, .int .i64 h, .slice v V.length c4] 85) := ⟨_, rfl⟩
  have B0 : Below w.heap.size w w0 := by rw [hw0]; exact (by repeat (first | exact Below.refl _ _ | assumption | refine Below.drew ?_ | refine below_drewN ?_ _ | refine Below.alloc' ?_ _ | (refine Below.setCell ?_ (by first | omega | (simp; done) | (simp; omega) | exact Below.size (by assumption) | exact Nat.le_trans (Below.size (by assumption)) (by simp)) _) | (refine Below.via' ?_ (by assumption)) | (refine Below.alloc ?_ (by first | omega | (simp; done) | (simp; omega) | exact Below.size (by assumption) | exact Nat.le_trans (Below.size (by assumption)) (by simp)) _) | (refine Below.via ?_ (by assumption) (by first | omega | (simp; done) | (simp; omega) | exact Below.size (by assumption) | exact Nat.le_trans (Below.size (by assumption)) (by simp)))))
  have g0 : Hid (QB w0 w.heap.size p P.length c) := by
    rw [hw0]
    exact p1.out.below (show Below (w.alloc (.cells #[.slice p P.length c] 33)).heap.size (w.alloc (.cells #[.slice p P.length c] 33)) _ from (by repeat (first | exact Below.refl _ _ | assumption | refine Below.drew ?_ | refine below_drewN ?_ _ | refine Below.alloc' ?_ _ | (refine Below.setCell ?_ (by first | omega | (simp; done) | (simp; omega) | exact Below.size (by assumption) | exact Nat.le_trans (Below.size (by assumption)) (by simp)) _) | (refine Below.via' ?_ (by assumption)) | (refine Below.alloc ?_ (by first | omega | (simp; done) | (simp; omega) | exact Below.size (by assumption) | exact Nat.le_trans (Below.size (by assumption)) (by simp)) _) | (refine Below.via ?_ (by assumption) (by first | omega | (simp; done) | (simp; omega) | exact Below.size (by assumption) | exact Nat.le_trans (Below.size (by assumption)) (by simp))))))
  have t0 : Hid (TQ w0 (w.heap.size + 1) l x F.length c2 z W.length c3 m) := by
    rw [hw0]
    have h0 := p2.out.below (show Below ((w.alloc (.cells #[.slice p P.length c] 33)).alloc (.cells #[.int .i64 l, .slice x F.length c2, .slice z W.length c3, .int .i64 m] 37)).heap.size ((w.alloc (.cells #[.slice p P.length c] 33)).alloc (.cells #[.int .i64 l, .slice x F.length c2, .slice z W.length c3, .int .i64 m] 37)) (((w.alloc (.cells #[.slice p P.length c] 33)).alloc (.cells #[.int .i64 l, .slice x F.length c2, .slice z W.length c3, .int .i64 m] 37)).alloc (.cells #[.int .i64 k, .int .i64 h, .slice v V.length c4] 85)) from (by repeat (first | exact Below.refl _ _ | assumption | refine Below.drew ?_ | refine below_drewN ?_ _ | refine Below.alloc' ?_ _ | (refine Below.setCell ?_ (by first | omega | (simp; done) | (simp; omega) | exact Below.size (by assumption) | exact Nat.le_trans (Below.size (by assumption)) (by simp)) _) | (refine Below.via' ?_ (by assumption)) | (refine Below.alloc ?_ (by first | omega | (simp; done) | (simp; omega) | exact Below.size (by assumption) | exact Nat.le_trans (Below.size (by assumption)) (by simp)) _) | (refine Below.via ?_ (by assumption) (by first | omega | (simp; done) | (simp; omega) | exact Below.size (by assumption) | exact Nat.le_trans (Below.size (by assumption)) (by simp))))))
    rw [World.size_alloc] at h0
    exact h0
  have r0 : Hid (RB w0 (w.heap.size + 1 + 1) k h v V.length c4) := by
    have h0 := p3.out
    rw [World.size_alloc, World.size_alloc, ← hw0] at h0
    exact h0
  have z0 : w0.heap.size = w.heap.size + 1 + 1 + 1 := by rw [hw0]; simp
  clear p1 p2 p3
  have hPh := Lib.hid hP
  have hSh := Lib.hid hS.rd
  have hFh := Lib.hid hT.1
  have hWh := Lib.hid hT.2
  have hVh := Lib.hid hV
  have hth := Lib.hid htg
  have hclh := Lib.hid hcl
  have hgh := Lib.hid htg.g
  have hpt := Lib.hid (tbS_ok htg.s htg.r)
  have hfn := Lib.hid (tw_fine htg.s htg.w hcl.f)
  have hip := Lib.hid (inP_of htg.s htg.r (fit_len hcl.f))
  have hiq := Lib.hid (inP_of htg.s htg.r rfl)
  have hl30 := (ge_len htg.g).2
  have hm0 := htg.m0
  clear hP hS hT hV htg hcl
  by_cases hz : 0 ≤ anZ P k l
  · have hzn : ¬ anZ P k l < 0 := by omega
    go_enter Try.func102, Try.ntmps102
    go_wp2_with fail
    rw [← hw0]
    replace hw0 := Lib.hid hw0
    replace z0 := Lib.hid z0
    refine (gUp_any _ _ P k l _ hgh.out hclh.out.a (hPh.out.below B0)).mono ?_
    rintro e w1 ⟨rfl, hb1⟩
    have B1 : Below w.heap.size w w1 := Below.via' B0 hb1
    have g1 := Lib.hid (g0.out.below hb1)
    have t1 := Lib.hid (t0.out.below hb1)
    have r1 := Lib.hid (r0.out.below hb1)
    obtain ⟨ka1, kb1, kc1⟩ := g1.out
    obtain ⟨ta1, tb1, tc1, td1, te1⟩ := t1.out
    obtain ⟨ra1, rb1, rc1, rd1⟩ := r1.out
    try clear ka0 kb0 kc0 ta0 tb0 tc0 td0 te0 ra0 rb0 rc0 rd0
    clear hb1
    go_wp2_with fail
    refine (uMeets_any _ _ _ _ _ _ _ _ _ W V _ hfn.out (hWh.out.below B1) (hVh.out.below B1)).mono ?_
    rintro e w2 ⟨rfl, hb2⟩
    have B2 : Below w.heap.size w w2 := Below.via' B1 hb2
    have g2 := Lib.hid (g1.out.below hb2)
    have t2 := Lib.hid (t1.out.below hb2)
    have r2 := Lib.hid (r1.out.below hb2)
    obtain ⟨ka2, kb2, kc2⟩ := g2.out
    obtain ⟨ta2, tb2, tc2, td2, te2⟩ := t2.out
    obtain ⟨ra2, rb2, rc2, rd2⟩ := r2.out
    try clear ka1 kb1 kc1 ta1 tb1 tc1 td1 te1 ra1 rb1 rc1 rd1
    clear hb2
    cases hm : tmB W V
    · have hv := Lib.hid (clp_no (P := P) (S := S) (l := l) (F := F) (W := W) (m := m) (k := k) (V := V) (fun q => by rw [hm] at q; cases q.2))
      go_wp2
      go_ret2
      exact ⟨ret_ii hv.out.1.symm hv.out.2.symm, B2⟩
    have hv1 := Lib.hid (clp_yes (S := S) (F := F) hz hm)
    have hone := fun q => clp_one (P := P) (l := l) (m := m) hz hm q
    have hval := fun (v : Int) (q : 0 ≤ m) => clp_val (P := P) (l := l) (v := v) hz hm q
    have hone := Lib.hid hone
    have hval := Lib.hid hval
    have hlm := an_lv hth.out.g hclh.out.a hz
    have hft := Lib.hid (tbV_fit hclh.out.f hth.out.r)
    have hce := ce_bd hth.out hlm hft.out
    have hc := hth.out.c
    have q1 : IntKind.i64.wrap (fdI (lvL P l) (anZ P k l) * cnZ (tbS S F)) = fdI (lvL P l) (anZ P k l) * cnZ (tbS S F) := IntWalk.i64_in _ (by omega)
    have q2 : IntKind.i64.wrap (fdI (lvL P l) (anZ P k l) * cnZ (tbS S F) + ixZ (tbS S F) (tbV V F)) = fdI (lvL P l) (anZ P k l) * cnZ (tbS S F) + ixZ (tbS S F) (tbV V F) := IntWalk.i64_in _ (by unfold ceZ at hce; omega)
    clear hce hc hlm
    replace hm := Lib.hid hm
    go_wp2_with fail
    refine (sPart_any _ _ _ _ S F _ hiq.out (hSh.out.below B2) (hFh.out.2.2.below B2)).mono ?_
    rintro e w3 ⟨u3, rfl, ho3, hb3⟩
    obtain ⟨x3, n3, rfl, -, -⟩ := (OwR.of ho3).form
    have hr3 := Lib.hid (Rd.of_own ho3)
    clear ho3
    have hs3 := Nat.le_trans B2.size hb3.size
    have B3 : Below w.heap.size w w3 := Below.via' B2 hb3
    have g3 := Lib.hid (g2.out.below hb3)
    have t3 := Lib.hid (t2.out.below hb3)
    have r3 := Lib.hid (r2.out.below hb3)
    obtain ⟨ka3, kb3, kc3⟩ := g3.out
    obtain ⟨ta3, tb3, tc3, td3, te3⟩ := t3.out
    obtain ⟨ra3, rb3, rc3, rd3⟩ := r3.out
    try clear ka2 kb2 kc2 ta2 tb2 tc2 td2 te2 ra2 rb2 rc2 rd2
    clear hb3
    have hzl : w.heap.size < w3.heap.size := by have := rd3; omega
    have hzl1 : w.heap.size + 1 < w3.heap.size := by have := rd3; omega
    have hzl2 : w.heap.size + 1 + 1 < w3.heap.size := rd3
    go_wp2
    first | (go_region_held3 (fun w' => Below (w3).heap.size (w3) w' ∧ (∀ b o, b < (w3).heap.size → w'.cell? ⟨b, o, none⟩ = (w3).cell? ⟨b, o, none⟩)) (first | exact keep_of (Below.refl _ _) | ((try go_split_ands); exact keep_of (by repeat (first | exact Below.refl _ _ | assumption | refine Below.drew ?_ | refine below_drewN ?_ _ | refine Below.alloc' ?_ _ | (refine Below.setCell ?_ (by first | omega | (simp; done) | (simp; omega) | exact Below.size (by assumption) | exact Nat.le_trans (Below.size (by assumption)) (by simp)) _) | (refine Below.via' ?_ (by assumption)) | (refine Below.alloc ?_ (by first | omega | (simp; done) | (simp; omega) | exact Below.size (by assumption) | exact Nat.le_trans (Below.size (by assumption)) (by simp)) _) | (refine Below.via ?_ (by assumption) (by first | omega | (simp; done) | (simp; omega) | exact Below.size (by assumption) | exact Nat.le_trans (Below.size (by assumption)) (by simp))))))) (first | (go_at_call 73; refine (gLevel_any _ _ P l _ hgh.out (hPh.out.below (by exact (by repeat (first | exact Below.refl _ _ | assumption | refine Below.drew ?_ | refine below_drewN ?_ _ | refine Below.alloc' ?_ _ | (refine Below.setCell ?_ (by first | omega | (simp; done) | (simp; omega) | exact Below.size (by assumption) | exact Nat.le_trans (Below.size (by assumption)) (by simp)) _) | (refine Below.via' ?_ (by assumption)) | (refine Below.alloc ?_ (by first | omega | (simp; done) | (simp; omega) | exact Below.size (by assumption) | exact Nat.le_trans (Below.size (by assumption)) (by simp)) _) | (refine Below.via ?_ (by assumption) (by first | omega | (simp; done) | (simp; omega) | exact Below.size (by assumption) | exact Nat.le_trans (Below.size (by assumption)) (by simp)))))))).mono ?_; rintro e w4 ⟨v4, rfl, ho4, hb4⟩; obtain ⟨x4, n4, rfl, -, -⟩ := (OwR.of ho4).form; (have hi4 : Hid (IIn w4 x4 (lvL P l)) := iin_sel (by omega) (Rd.of_own ho4)); clear ho4) | (go_at_call 145; refine (l1Find_any _ _ (lvL P l) (anZ P k l) _ (hi4.out.below (by exact (by repeat (first | exact Below.refl _ _ | assumption | refine Below.drew ?_ | refine below_drewN ?_ _ | refine Below.alloc' ?_ _ | (refine Below.setCell ?_ (by first | omega | (simp; done) | (simp; omega) | exact Below.size (by assumption) | exact Nat.le_trans (Below.size (by assumption)) (by simp)) _) | (refine Below.via' ?_ (by assumption)) | (refine Below.alloc ?_ (by first | omega | (simp; done) | (simp; omega) | exact Below.size (by assumption) | exact Nat.le_trans (Below.size (by assumption)) (by simp)) _) | (refine Below.via ?_ (by assumption) (by first | omega | (simp; done) | (simp; omega) | exact Below.size (by assumption) | exact Nat.le_trans (Below.size (by assumption)) (by simp)))))))).mono ?_; rintro e w5 ⟨rfl, rfl⟩) | (go_at_call 72; refine (sCount_p _ _ (tbS S F) _ hpt.out (hr3.out.below (by exact (by repeat (first | exact Below.refl _ _ | assumption | refine Below.drew ?_ | refine below_drewN ?_ _ | refine Below.alloc' ?_ _ | (refine Below.setCell ?_ (by first | omega | (simp; done) | (simp; omega) | exact Below.size (by assumption) | exact Nat.le_trans (Below.size (by assumption)) (by simp)) _) | (refine Below.via' ?_ (by assumption)) | (refine Below.alloc ?_ (by first | omega | (simp; done) | (simp; omega) | exact Below.size (by assumption) | exact Nat.le_trans (Below.size (by assumption)) (by simp)) _) | (refine Below.via ?_ (by assumption) (by first | omega | (simp; done) | (simp; omega) | exact Below.size (by assumption) | exact Nat.le_trans (Below.size (by assumption)) (by simp)))))))).mono ?_; rintro e w6 ⟨rfl, hb6⟩) | (go_at_call 147; refine (sPick_any _ _ _ _ V F _ hip.out (hVh.out.below (by exact (by repeat (first | exact Below.refl _ _ | assumption | refine Below.drew ?_ | refine below_drewN ?_ _ | refine Below.alloc' ?_ _ | (refine Below.setCell ?_ (by first | omega | (simp; done) | (simp; omega) | exact Below.size (by assumption) | exact Nat.le_trans (Below.size (by assumption)) (by simp)) _) | (refine Below.via' ?_ (by assumption)) | (refine Below.alloc ?_ (by first | omega | (simp; done) | (simp; omega) | exact Below.size (by assumption) | exact Nat.le_trans (Below.size (by assumption)) (by simp)) _) | (refine Below.via ?_ (by assumption) (by first | omega | (simp; done) | (simp; omega) | exact Below.size (by assumption) | exact Nat.le_trans (Below.size (by assumption)) (by simp))))))) (hFh.out.2.2.below (by exact (by repeat (first | exact Below.refl _ _ | assumption | refine Below.drew ?_ | refine below_drewN ?_ _ | refine Below.alloc' ?_ _ | (refine Below.setCell ?_ (by first | omega | (simp; done) | (simp; omega) | exact Below.size (by assumption) | exact Nat.le_trans (Below.size (by assumption)) (by simp)) _) | (refine Below.via' ?_ (by assumption)) | (refine Below.alloc ?_ (by first | omega | (simp; done) | (simp; omega) | exact Below.size (by assumption) | exact Nat.le_trans (Below.size (by assumption)) (by simp)) _) | (refine Below.via ?_ (by assumption) (by first | omega | (simp; done) | (simp; omega) | exact Below.size (by assumption) | exact Nat.le_trans (Below.size (by assumption)) (by simp)))))))).mono ?_; rintro e w7 ⟨u7, rfl, ho7, hb7⟩; obtain ⟨x7, n7, rfl, -, -⟩ := (OwR.of ho7).form; (have hr7 := Lib.hid (Rd.of_own ho7)); clear ho7) | (go_at_call 146; refine (sIndex_p _ _ _ _ (tbS S F) (tbV V F) _ hpt.out hft.out (hr3.out.below (by exact (by repeat (first | exact Below.refl _ _ | assumption | refine Below.drew ?_ | refine below_drewN ?_ _ | refine Below.alloc' ?_ _ | (refine Below.setCell ?_ (by first | omega | (simp; done) | (simp; omega) | exact Below.size (by assumption) | exact Nat.le_trans (Below.size (by assumption)) (by simp)) _) | (refine Below.via' ?_ (by assumption)) | (refine Below.alloc ?_ (by first | omega | (simp; done) | (simp; omega) | exact Below.size (by assumption) | exact Nat.le_trans (Below.size (by assumption)) (by simp)) _) | (refine Below.via ?_ (by assumption) (by first | omega | (simp; done) | (simp; omega) | exact Below.size (by assumption) | exact Nat.le_trans (Below.size (by assumption)) (by simp))))))) ⟨by rw [tbV_len]; have := hip.out.1; omega, tbI64 hVh.out.2.1, hr7.out.below (by exact (by repeat (first | exact Below.refl _ _ | assumption | refine Below.drew ?_ | refine below_drewN ?_ _ | refine Below.alloc' ?_ _ | (refine Below.setCell ?_ (by first | omega | (simp; done) | (simp; omega) | exact Below.size (by assumption) | exact Nat.le_trans (Below.size (by assumption)) (by simp)) _) | (refine Below.via' ?_ (by assumption)) | (refine Below.alloc ?_ (by first | omega | (simp; done) | (simp; omega) | exact Below.size (by assumption) | exact Nat.le_trans (Below.size (by assumption)) (by simp)) _) | (refine Below.via ?_ (by assumption) (by first | omega | (simp; done) | (simp; omega) | exact Below.size (by assumption) | exact Nat.le_trans (Below.size (by assumption)) (by simp))))))⟩).mono ?_; rintro e w8 ⟨rfl, hb8⟩)); rename_i hH; obtain ⟨hb9, hcl9⟩ := hH; have hz9 := hb9.size; (try simp at hz9); (try (have hly9 := Nat.lt_of_succ_le hz9)); (try (have hlx9 := Nat.lt_of_succ_lt hly9)); (try (have hlw9 := Nat.lt_of_succ_lt hlx9)); (try (have hle9 := Nat.le_of_lt hly9)); (try (have hya9 : w.heap.size < w9.heap.size := by omega)); (try (have hyb9 : w.heap.size + 1 < w9.heap.size := by omega)); (try (have hyc9 : w.heap.size + 1 + 1 < w9.heap.size := by omega)); (try (have hyd9 : wa.heap.size < w9.heap.size := by omega))) | fail
    have B8 : Below w.heap.size w w8 := (by repeat (first | exact Below.refl _ _ | assumption | refine Below.drew ?_ | refine below_drewN ?_ _ | refine Below.alloc' ?_ _ | (refine Below.setCell ?_ (by first | omega | (simp; done) | (simp; omega) | exact Below.size (by assumption) | exact Nat.le_trans (Below.size (by assumption)) (by simp)) _) | (refine Below.via' ?_ (by assumption)) | (refine Below.alloc ?_ (by first | omega | (simp; done) | (simp; omega) | exact Below.size (by assumption) | exact Nat.le_trans (Below.size (by assumption)) (by simp)) _) | (refine Below.via ?_ (by assumption) (by first | omega | (simp; done) | (simp; omega) | exact Below.size (by assumption) | exact Nat.le_trans (Below.size (by assumption)) (by simp)))))
    have B38 : Below w3.heap.size w3 w8 := (by repeat (first | exact Below.refl _ _ | assumption | refine Below.drew ?_ | refine below_drewN ?_ _ | refine Below.alloc' ?_ _ | (refine Below.setCell ?_ (by first | omega | (simp; done) | (simp; omega) | exact Below.size (by assumption) | exact Nat.le_trans (Below.size (by assumption)) (by simp)) _) | (refine Below.via' ?_ (by assumption)) | (refine Below.alloc ?_ (by first | omega | (simp; done) | (simp; omega) | exact Below.size (by assumption) | exact Nat.le_trans (Below.size (by assumption)) (by simp)) _) | (refine Below.via ?_ (by assumption) (by first | omega | (simp; done) | (simp; omega) | exact Below.size (by assumption) | exact Nat.le_trans (Below.size (by assumption)) (by simp)))))
    obtain ⟨ta8, tb8, tc8, td8, te8⟩ := t3.out.below B38
    obtain ⟨ra8, rb8, rc8, rd8⟩ := r3.out.below B38
    by_cases hmm : m < 0
    · have hv2 := Lib.hid (hone.out hmm)
      go_wp2
      go_ret2
      exact ⟨ret_ii hv1.out.symm hv2.out.symm, B8⟩
    obtain ⟨q, rfl⟩ := Int.eq_ofNat_of_zero_le (show 0 ≤ m by omega)
    have hql : q < V.length := by have := hth.out.m1; have := fit_len hclh.out.f; omega
    obtain ⟨b9, o9, u9, hv9, hb9, hu9, k9⟩ := (hVh.out.2.2.below B8).int (i := q) hql
    subst hv9
    have hv2 := Lib.hid (hval.out u9 (by omega) (by rw [Int.toNat_natCast]; exact hu9))
    have hq1 : (q : Int) < (V.length : Int) := by omega
    have hq0 : (0 : Int) ≤ (q : Int) := by omega
    replace hu9 := Lib.hid hu9
    replace hmm := Lib.hid hmm
    have hq2 : ¬ (q : Int) < 0 := by omega
    go_wp2
    go_quiet (fail)
    go_wp2
    go_ret2
    exact ⟨ret_ii hv1.out.symm hv2.out.symm, (by repeat (first | exact Below.refl _ _ | assumption | refine Below.drew ?_ | refine below_drewN ?_ _ | refine Below.alloc' ?_ _ | (refine Below.setCell ?_ (by first | omega | (simp; done) | (simp; omega) | exact Below.size (by assumption) | exact Nat.le_trans (Below.size (by assumption)) (by simp)) _) | (refine Below.via' ?_ (by assumption)) | (refine Below.alloc ?_ (by first | omega | (simp; done) | (simp; omega) | exact Below.size (by assumption) | exact Nat.le_trans (Below.size (by assumption)) (by simp)) _) | (refine Below.via ?_ (by assumption) (by first | omega | (simp; done) | (simp; omega) | exact Below.size (by assumption) | exact Nat.le_trans (Below.size (by assumption)) (by simp)))))⟩
  · have hv := Lib.hid (clp_no (P := P) (S := S) (l := l) (F := F) (W := W) (m := m) (k := k) (V := V) (fun q => hz q.1))
    have hzn : anZ P k l < 0 := by omega
    go_enter Try.func102, Try.ntmps102
    go_wp2_with fail
    rw [← hw0]
    replace hw0 := Lib.hid hw0
    refine (gUp_any _ _ P k l _ hgh.out hclh.out.a (hPh.out.below B0)).mono ?_
    rintro e w1 ⟨rfl, hb1⟩
    go_wp2
    go_ret2
    exact ⟨ret_ii hv.out.1.symm hv.out.2.symm, Below.via' B0 hb1⟩
end Go.Proofs.Ytpmbenedeakieaa

namespace Go.Proofs.Ytpmbenedeakieaa
open Go.RowKit
set_option maxRecDepth 100000

/-- A survey's records go with a table. -/
theorem sv_cl {P : List Int} {S : List (ByteArray × Int)} {Q : List PR} {j : Nat} {q : PR} (hd : dokB S (pM Q) = true) (ht : tyB P (pM Q) = true) (hq : Q[j]? = some q) : ∃ k : Nat, q.a = k ∧ ClP P S k q.L := by
  have hm := List.mem_of_getElem? (pM_at hq)
  have h1 := dokB_mem hd hm
  unfold tyB at ht
  rw [List.all_eq_true] at ht
  have h2 := ht _ hm
  rw [List.contains_iff_mem] at h2
  obtain ⟨k, hk, hl, -⟩ := sel_mem.1 h2
  unfold rokB at h1
  simp only [Bool.and_eq_true] at h1
  exact ⟨k, hk, ⟨hl, h1.2⟩⟩
/-- The records of a cell; what RecordsIn answers. -/
def riF (P : List Int) (S : List (ByteArray × Int)) (l : Int) (F W : List Int) (i : Int) (M : List RV) : Nat → Bool := fun k => decide ((M[k]?.map fun r => clI P S l F W r.1 r.2.2) = some i)
def riB (P : List Int) (S : List (ByteArray × Int)) (l : Int) (F W : List Int) (m i : Int) (M : List RV) : Bool := tgB P S l F W m && ((dokB S M && tyB P M) && inB i 0 (tcZ P S l F - 1))
def riL (P : List Int) (S : List (ByteArray × Int)) (l : Int) (F W : List Int) (m i : Int) (M : List RV) : List Int := eIf (riB P S l F W m i M) (selK (riF P S l F W i M) M.length)
section
variable {P : List Int} {S : List (ByteArray × Int)} {l : Int} {F W : List Int} {m i : Int} {M : List RV}
theorem ri_no0 (h : riB P S l F W m i M = false) : riL P S l F W m i M = [] := eIf_f h
theorem ri_no1 (h : tgB P S l F W m = false) : riB P S l F W m i M = false := by unfold riB; rw [h]; rfl
theorem ri_no2 (h : (dokB S M && tyB P M) = false) : riB P S l F W m i M = false := by unfold riB; rw [h, Bool.false_and, Bool.and_false]
theorem ri_no3 (h : inB i 0 (tcZ P S l F - 1) = false) : riB P S l F W m i M = false := by unfold riB; rw [h, Bool.and_false, Bool.and_false]
theorem ri_yes (h : TgP P S l F W m) (h2 : (dokB S M && tyB P M) = true) (h3 : inB i 0 (tcZ P S l F - 1) = true) : riB P S l F W m i M = true ∧ riL P S l F W m i M = selK (riF P S l F W i M) M.length := by
  have e : riB P S l F W m i M = true := by unfold riB; rw [tg_iff.2 h, h2, h3]; rfl
  exact ⟨e, eIf_t e⟩
theorem ri_len : (riL P S l F W m i M).length ≤ 1048576 := by
  cases h : riB P S l F W m i M
  · rw [ri_no0 h]; simp
  · have h0 := h
    unfold riB at h0
    simp only [Bool.and_eq_true] at h0
    have := dokB_len h0.2.1.1
    unfold riL
    rw [eIf_t h]
    have := sel_len (riF P S l F W i M) M.length
    omega
theorem riF_at {Q : List PR} {j : Nat} {q : PR} (h : Q[j]? = some q) : riF P S l F W i (pM Q) j = decide (clI P S l F W q.a q.L = i) := by
  unfold riF
  rw [pM_at h]
  simp [PR.m]
end
theorem riLB_no {L : List Int} {b : Bool} {w w' : World} (h : L = []) (k : b = false) (hB : Below w.heap.size w w') : RetLB L b w (.returned (.tuple #[.slice none 0 0, .bool false])) w' := by
  rw [h, k]
  exact ⟨_, rfl, World.ownsRow_nil _ _ _ _, hB⟩
set_option maxHeartbeats 16000000 in
theorem sRI_x (p y x z v : Option Addr) (c c1 c2 c3 c4 : Nat) (P : List Int) (S : List (ByteArray × Int)) (l : Int) (F W : List Int) (m : Int) (Q : List PR) (i : Int) (w : World) (hP : IIn w p P) (hS : SIn w y c1 S) (hT : TIn w x z F W) (hQ : DIn w v Q) :
    Calls Try.prog 52 #[.agg #[.slice p P.length c], .slice y S.length c1, .agg #[.int .i64 l, .slice x F.length c2, .slice z W.length c3, .int .i64 m], .slice v Q.length c4, .int .i64 i] w (RetLB (riL P S l F W m i (pM Q)) (riB P S l F W m i (pM Q)) w) := by
  obtain ⟨i0, hii, hz0, hz1, hz2⟩ := info_parts Try.infoInt
  have hQh := Lib.hid hQ
  have hQl := hQ.1
  clear hQ
  have hPh := Lib.hid hP
  have hSh := Lib.hid hS
  have hFh := Lib.hid hT.1
  have hWh := Lib.hid hT.2
  clear hP hS hT
  have p1 := Lib.hid (QB.new w p P.length c 33)
  have p2 := Lib.hid (TQ.new (w.alloc (.cells #[.slice p P.length c] 33)) l x F.length c2 z W.length c3 m 37)
  obtain ⟨w0, hw0⟩ : ∃ w0, w0 = (w.alloc (.cells #[.slice p P.length c] 33)).alloc (.cells #[.int .i64 l, .slice x F.length c2, .slice z W.length c3, .int .i64 m] 37) := ⟨_, rfl⟩
  have B0 : Below w.heap.size w w0 := by rw [hw0]; exact (by repeat (first | exact Below.refl _ _ | assumption | refine Below.drew ?_ | refine below_drewN ?_ _ | refine Below.alloc' ?_ _ | (refine Below.setCell ?_ (by first | omega | (simp; done) | (simp; omega) | exact Below.size (by assumption) | exact Nat.le_trans (Below.size (by assumption)) (by simp)) _) | (refine Below.via' ?_ (by assumption)) | (refine Below.alloc ?_ (by first | omega | (simp; done) | (simp; omega) | exact Below.size (by assumption) | exact Nat.le_trans (Below.size (by assumption)) (by simp)) _) | (refine Below.via ?_ (by assumption) (by first | omega | (simp; done) | (simp; omega) | exact Below.size (by assumption) | exact Nat.le_trans (Below.size (by assumption)) (by simp)))))
  have g0 : Hid (QB w0 w.heap.size p P.length c) := by
    rw [hw0]
    exact p1.out.below (show Below (w.alloc (.cells #[.slice p P.length c] 33)).heap.size (w.alloc (.cells #[.slice p P.length c] 33)) _ from (by repeat (first | exact Below.refl _ _ | assumption | refine Below.drew ?_ | refine below_drewN ?_ _ | refine Below.alloc' ?_ _ | (refine Below.setCell ?_ (by first | omega | (simp; done) | (simp; omega) | exact Below.size (by assumption) | exact Nat.le_trans (Below.size (by assumption)) (by simp)) _) | (refine Below.via' ?_ (by assumption)) | (refine Below.alloc ?_ (by first | omega | (simp; done) | (simp; omega) | exact Below.size (by assumption) | exact Nat.le_trans (Below.size (by assumption)) (by simp)) _) | (refine Below.via ?_ (by assumption) (by first | omega | (simp; done) | (simp; omega) | exact Below.size (by assumption) | exact Nat.le_trans (Below.size (by assumption)) (by simp))))))
  have t0 : Hid (TQ w0 (w.heap.size + 1) l x F.length c2 z W.length c3 m) := by
    have h0 := p2.out
    rw [World.size_alloc, ← hw0] at h0
    exact h0
  have z0 : w0.heap.size = w.heap.size + 1 + 1 := by rw [hw0]; simp
  clear p1 p2
  go_enter Try.func52, Try.ntmps52
  go_wp2_with fail
  rw [← hw0]
  replace hw0 := Lib.hid hw0
  replace z0 := Lib.hid z0
  refine (uGood_any p y x z _ _ _ _ P S l m F W _ (hPh.out.below B0) (hSh.out.below B0) ⟨hFh.out.below B0, hWh.out.below B0⟩).mono ?_
  rintro e w1 ⟨rfl, hb1⟩
  have B1 : Below w.heap.size w w1 := Below.via' B0 hb1
  have g1 := Lib.hid (g0.out.below hb1)
  have t1 := Lib.hid (t0.out.below hb1)
  obtain ⟨ka1, kb1, kc1⟩ := g1.out
  obtain ⟨ta1, tb1, tc1, td1, te1⟩ := t1.out
  try clear ka0 kb0 kc0 ta0 tb0 tc0 td0 te0
  clear hb1
  cases htg : tgB P S l F W m
  · have hv := Lib.hid (ri_no1 (i := i) (M := pM Q) htg)
    go_wp2
    go_ret2
    exact riLB_no (ri_no0 hv.out) hv.out B1
  have htp := tg_iff.1 htg
  have hgh := Lib.hid htp.g
  have hsh := Lib.hid htp.s
  have hrh := Lib.hid htp.r
  have hl30 := (ge_len htp.g).2
  have hc6 := htp.c
  have hc1 := tc_pos htp
  have hth := Lib.hid htp
  replace htg := Lib.hid htg
  clear htp
  go_wp2_with fail
  refine (uSurvey_any _ _ _ _ _ _ P S Q _ (hPh.out.below B1) (hSh.out.below B1) (hQh.out.below B1)).mono ?_
  rintro e w2 ⟨rfl, hb2⟩
  have B2 : Below w.heap.size w w2 := Below.via' B1 hb2
  have g2 := Lib.hid (g1.out.below hb2)
  have t2 := Lib.hid (t1.out.below hb2)
  obtain ⟨ka2, kb2, kc2⟩ := g2.out
  obtain ⟨ta2, tb2, tc2, td2, te2⟩ := t2.out
  try clear ka1 kb1 kc1 ta1 tb1 tc1 td1 te1
  clear hb2
  rw [show (geB P && idB S (pM Q) && tyB P (pM Q)) = (dokB S (pM Q) && tyB P (pM Q)) by unfold idB; rw [hgh.out, hsh.out]; rfl]
  cases hsv : (dokB S (pM Q) && tyB P (pM Q))
  · have hv := Lib.hid (ri_no2 (l := l) (F := F) (W := W) (m := m) (i := i) hsv)
    go_wp2
    go_ret2
    exact riLB_no (ri_no0 hv.out) hv.out B2
  have hsv2 := hsv
  rw [Bool.and_eq_true] at hsv2
  have hdk := Lib.hid hsv2.1
  have hty := Lib.hid hsv2.2
  clear hsv2
  have hsvh := Lib.hid hsv
  have hQ40 : Q.length ≤ 40 := by have := dokB_len hdk.out; rwa [pM_len] at this
  clear hsv
  have q1 : IntKind.i64.wrap (tcZ P S l F - 1) = tcZ P S l F - 1 := IntWalk.i64_in _ (by omega)
  go_wp2_with fail
  refine (uCount_any p y x z _ _ _ _ P S l m F W _ hgh.out hsh.out hrh.out (hPh.out.below B2) (hSh.out.below B2) (hFh.out.below B2)).mono ?_
  rintro e w5 ⟨rfl, hb5⟩
  have B5 : Below w.heap.size w w5 := Below.via' B2 hb5
  have g5 := Lib.hid (g2.out.below hb5)
  have t5 := Lib.hid (t2.out.below hb5)
  obtain ⟨ka5, kb5, kc5⟩ := g5.out
  obtain ⟨ta5, tb5, tc5, td5, te5⟩ := t5.out
  try clear ka2 kb2 kc2 ta2 tb2 tc2 td2 te2
  clear hb5
  cases hin : inB i 0 (tcZ P S l F - 1)
  · have hv := Lib.hid (ri_no3 (W := W) (m := m) (M := pM Q) hin)
    go_wp2_with fail
    refine (l1In_any _ _ _ _).mono ?_
    rintro e w6 ⟨rfl, rfl⟩
    rw [hin]
    go_wp2
    go_ret2
    exact riLB_no (ri_no0 hv.out) hv.out B5
  have hv := Lib.hid (ri_yes hth.out hsvh.out hin)
  go_wp2_with fail
  refine (l1In_any _ _ _ _).mono ?_
  rintro e w6 ⟨rfl, rfl⟩
  rw [hin]
  replace hin := Lib.hid hin
  clear ka5 kb5 kc5 ta5 tb5 tc5 td5 te5 q1 hc1 hc6
  go_wp2
  go_loopw [12, 41] (fun u q wr => ∃ j : Nat, j ≤ Q.length ∧ q = .int .i64 j ∧ wr.ownsRow w5.heap.size 3 1 u (selK (riF P S l F W i (pM Q)) j).length (iC (selK (riF P S l F W i (pM Q)) j)) ∧ Below w5.heap.size w5 wr) (fun _ q _ => Q.length - (intOf q).toNat)
  case atStart => exact ⟨0, by omega, by go_num, World.ownsRow_nil _ _ _ _, Below.refl _ _⟩
  case round =>
    obtain ⟨j, hj, rfl, hown, hb⟩ := hrel
    have hownh := Lib.hid hown
    clear hown
    have hsl := sel_len (riF P S l F W i (pM Q)) j
    have Bw : Below w.heap.size w wr := Below.via' B5 hb
    by_cases hlt : j < Q.length
    · obtain ⟨bl, off, q, rfl, hbl, hQj, hc0, hc1, hc2⟩ := (hQh.out.2.2.below Bw).rec hlt
      obtain ⟨k, hka, hcl⟩ := sv_cl hdk.out hty.out hQj
      have hqr := Lib.hid ((hQh.out.2.1 q (List.mem_of_getElem? hQj)).2.2.below Bw)
      have hri := riF_at (P := P) (S := S) (l := l) (F := F) (W := W) (i := i) hQj
      have hclh := Lib.hid hcl
      obtain ⟨qa, qh, qx, qc, qL⟩ := q
      have hka : qa = (k : Int) := hka
      subst hka
      have hlt' : (j : Int) < (Q.length : Int) := by omega
      replace hQj := Lib.hid hQj
      replace hri : riF P S l F W i (pM Q) j = decide (clI P S l F W (k : Int) qL = i) := hri
      have hc2 : wr.cell? ⟨bl, off + j * 3 + 2, none⟩ = some (.slice qx qL.length qc) := hc2
      have BA : Below wr.heap.size wr (wr.alloc (.cells #[.int .i64 (k : Int), .int .i64 qh, .slice qx qL.length qc] 85)) := (by repeat (first | exact Below.refl _ _ | assumption | refine Below.drew ?_ | refine below_drewN ?_ _ | refine Below.alloc' ?_ _ | (refine Below.setCell ?_ (by first | omega | (simp; done) | (simp; omega) | exact Below.size (by assumption) | exact Nat.le_trans (Below.size (by assumption)) (by simp)) _) | (refine Below.via' ?_ (by assumption)) | (refine Below.alloc ?_ (by first | omega | (simp; done) | (simp; omega) | exact Below.size (by assumption) | exact Nat.le_trans (Below.size (by assumption)) (by simp)) _) | (refine Below.via ?_ (by assumption) (by first | omega | (simp; done) | (simp; omega) | exact Below.size (by assumption) | exact Nat.le_trans (Below.size (by assumption)) (by simp)))))
      obtain ⟨WA, hWA⟩ : ∃ WA, WA = wr.alloc (.cells #[.int .i64 (k : Int), .int .i64 qh, .slice qx qL.length qc] 85) := ⟨_, rfl⟩
      have hqn := RB.new wr k qh qx qL.length qc 85
      rw [← hWA] at BA hqn
      have hqn := Lib.hid hqn
      have hownA := Lib.hid (own_below hownh.out BA)
      have BwA : Below w.heap.size w WA := Below.via' Bw BA
      have B5A : Below w5.heap.size w5 WA := Below.via' hb BA
      replace hWA := Lib.hid hWA
      clear hcl
      have FF := And.intro (g5.out.below B5A) (And.intro (t5.out.below B5A) hqn.out); rw [hWA.out] at FF; obtain ⟨⟨ka, kb, kc⟩, ⟨ta, tb, tc, td, te⟩, ⟨ra, rb, rc, rd⟩⟩ := FF
      go_wp2_with fail
      rw [← hWA.out]
      refine (uCell_any _ _ _ _ _ _ _ _ _ _ P S l F W m k qh qL _ hth.out hclh.out (hPh.out.below BwA) (hSh.out.below BwA) ⟨hFh.out.below BwA, hWh.out.below BwA⟩ (hqr.out.below BA)).mono ?_
      rintro e w2 ⟨rfl, hb2⟩
      have hb2' : Below w5.heap.size w5 w2 := Below.via' B5A hb2
      have ho2 := Lib.hid (own_below hownA.out hb2)
      have hs0 := hb2'.size
      by_cases hci : clI P S l F W (k : Int) qL = i
      · have ht : (clI P S l F W (k : Int) qL == i) = true := by rw [beq_iff_eq]; exact hci
        have hsel := Lib.hid (sel_yes (p := riF P S l F W i (pM Q)) (k := j) (by rw [hri]; exact decide_eq_true hci))
        replace hci := Lib.hid hci
        clear hri
        go_wp2_with (at_builtin; go_loud (refine wpList_append_rd _ rfl (.tmp 57) (.tmp 59) 22 rfl (w5.heap.size) 3 i0 (.int .i64 0) 1 8 Try.underlying22 hii hz0 hz1 hz2 rfl (by decide) _ (selK (riF P S l F W i (pM Q)) j).length (iC (selK (riF P S l F W i (pM Q)) j)) rfl ((ho2.out.alloc _)) _ 1 1 rfl (Nat.le_refl _) (by intro h; cases h) (iC [((j : Int) : Int)]) rfl (rd_oneE _ _ _ _ (by simp)) (iC_one _) (by unfold maxLen; omega) (by omega) (by simp; omega) ?_); intro v3 w3 hown3 hgrow3 hwhere3)
        obtain ⟨hb3, hl3⟩ := append_below hb2' (fun k hk => (ho2.out.lt k hk).1) hgrow3 hwhere3
        have hown3 := Lib.hid (own_snocE hown3 hsel.out rfl)
        clear hgrow3 hwhere3
        go_wp2
        go_roundw
        case rel => exact ⟨j + 1, by omega, by go_num, hown3.out, hb3⟩
        case measure => simp [intOf]; omega
      · have ht : (clI P S l F W (k : Int) qL == i) = false := by rw [beq_eq_false_iff_ne]; exact hci
        have hsel := Lib.hid (sel_no (p := riF P S l F W i (pM Q)) (k := j) (by rw [hri]; exact decide_eq_false hci))
        replace hci := Lib.hid hci
        clear hri
        go_wp2
        go_roundw
        case rel => exact ⟨j + 1, by omega, by go_num, by rw [hsel.out]; exact ho2.out, hb2'⟩
        case measure => simp [intOf]; omega
    · have hij : j = Q.length := by omega
      subst hij
      go_wp2
      go_ret2
      refine ⟨_, ret_vb hv.out.1.symm, ?_, Bw⟩
      rw [hv.out.2, pM_len]
      exact own_more hownh.out B5.size
set_option maxHeartbeats 16000000 in
theorem iRI_x (p y x z v : Option Addr) (c c1 c2 c3 c4 : Nat) (P : List Int) (S : List (ByteArray × Int)) (l : Int) (F W : List Int) (m : Int) (Q : List PR) (i : Int) (w : World) (hP : IIn w p P) (hS : SIn w y c1 S) (hT : TIn w x z F W) (hQ : DIn w v Q) :
    Calls Try.prog 51 #[.agg #[.slice p P.length c], .slice y S.length c1, .agg #[.int .i64 l, .slice x F.length c2, .slice z W.length c3, .int .i64 m], .slice v Q.length c4, .int .i64 i] w (RetLB (riL P S l F W m i (pM Q)) (riB P S l F W m i (pM Q)) w) := by
  obtain ⟨i0, hii, hz0, hz1, hz2⟩ := info_parts Try.infoInt
  have hQh := Lib.hid hQ
  have hQl := hQ.1
  clear hQ
  have hPh := Lib.hid hP
  have hSh := Lib.hid hS
  have hFh := Lib.hid hT.1
  have hWh := Lib.hid hT.2
  clear hP hS hT
  have p1 := Lib.hid (QB.new w p P.length c 33)
  have p2 := Lib.hid (TQ.new (w.alloc (.cells #[.slice p P.length c] 33)) l x F.length c2 z W.length c3 m 37)
  obtain ⟨w0, hw0⟩ : ∃ w0, w0 = (w.alloc (.cells #[.slice p P.length c] 33)).alloc (.cells #[.int .i64 l, .slice x F.length c2, .slice z W.length c3, .int .i64 m] 37) := ⟨_, rfl⟩
  have B0 : Below w.heap.size w w0 := by rw [hw0]; exact (by repeat (first | exact Below.refl _ _ | assumption | refine Below.drew ?_ | refine below_drewN ?_ _ | refine Below.alloc' ?_ _ | (refine Below.setCell ?_ (by first | omega | (simp; done) | (simp; omega) | exact Below.size (by assumption) | exact Nat.le_trans (Below.size (by assumption)) (by simp)) _) | (refine Below.via' ?_ (by assumption)) | (refine Below.alloc ?_ (by first | omega | (simp; done) | (simp; omega) | exact Below.size (by assumption) | exact Nat.le_trans (Below.size (by assumption)) (by simp)) _) | (refine Below.via ?_ (by assumption) (by first | omega | (simp; done) | (simp; omega) | exact Below.size (by assumption) | exact Nat.le_trans (Below.size (by assumption)) (by simp)))))
  have g0 : Hid (QB w0 w.heap.size p P.length c) := by
    rw [hw0]
    exact p1.out.below (show Below (w.alloc (.cells #[.slice p P.length c] 33)).heap.size (w.alloc (.cells #[.slice p P.length c] 33)) _ from (by repeat (first | exact Below.refl _ _ | assumption | refine Below.drew ?_ | refine below_drewN ?_ _ | refine Below.alloc' ?_ _ | (refine Below.setCell ?_ (by first | omega | (simp; done) | (simp; omega) | exact Below.size (by assumption) | exact Nat.le_trans (Below.size (by assumption)) (by simp)) _) | (refine Below.via' ?_ (by assumption)) | (refine Below.alloc ?_ (by first | omega | (simp; done) | (simp; omega) | exact Below.size (by assumption) | exact Nat.le_trans (Below.size (by assumption)) (by simp)) _) | (refine Below.via ?_ (by assumption) (by first | omega | (simp; done) | (simp; omega) | exact Below.size (by assumption) | exact Nat.le_trans (Below.size (by assumption)) (by simp))))))
  have t0 : Hid (TQ w0 (w.heap.size + 1) l x F.length c2 z W.length c3 m) := by
    have h0 := p2.out
    rw [World.size_alloc, ← hw0] at h0
    exact h0
  have z0 : w0.heap.size = w.heap.size + 1 + 1 := by rw [hw0]; simp
  clear p1 p2
  go_enter Try.func51, Try.ntmps51
  go_wp2_with fail
  rw [← hw0]
  replace hw0 := Lib.hid hw0
  replace z0 := Lib.hid z0
  refine (gridOf_any p y x z _ _ _ _ P S l m F W _ (hPh.out.below B0) (hSh.out.below B0) ⟨hFh.out.below B0, hWh.out.below B0⟩).mono ?_
  rintro e w1 ⟨hb1, h1⟩
  have B1 : Below w.heap.size w w1 := Below.via' B0 hb1
  have g1 := Lib.hid (g0.out.below hb1)
  have t1 := Lib.hid (t0.out.below hb1)
  obtain ⟨ka1, kb1, kc1⟩ := g1.out
  obtain ⟨ta1, tb1, tc1, td1, te1⟩ := t1.out
  try clear ka0 kb0 kc0 ta0 tb0 tc0 td0 te0
  clear hb1
  rcases h1 with ⟨hno, rfl⟩ | ⟨htg, ga, ca, va, rfl, hA, hV, hvl⟩
  · have hv := Lib.hid (ri_no1 (i := i) (M := pM Q) (tg_no hno))
    clear hno
    go_wp2
    go_ret2
    exact riLB_no (ri_no0 hv.out) hv.out (by repeat (first | exact Below.refl _ _ | assumption | refine Below.drew ?_ | refine below_drewN ?_ _ | refine Below.alloc' ?_ _ | (refine Below.setCell ?_ (by first | omega | (simp; done) | (simp; omega) | exact Below.size (by assumption) | exact Nat.le_trans (Below.size (by assumption)) (by simp)) _) | (refine Below.via' ?_ (by assumption)) | (refine Below.alloc ?_ (by first | omega | (simp; done) | (simp; omega) | exact Below.size (by assumption) | exact Nat.le_trans (Below.size (by assumption)) (by simp)) _) | (refine Below.via ?_ (by assumption) (by first | omega | (simp; done) | (simp; omega) | exact Below.size (by assumption) | exact Nat.le_trans (Below.size (by assumption)) (by simp)))))
  have hpt := Lib.hid (tbS_ok htg.s htg.r)
  have hth := Lib.hid htg
  have hl30 := (ge_len htg.g).2
  have hl := lvL_len P l
  have hAh := Lib.hid hA
  have hPt := Lib.hid hV
  clear htg hA hV
  obtain ⟨W2, hW2⟩ : ∃ W2, W2 = w1.alloc (.cells #[.slice p P.length c, .int .i64 l, .slice x F.length c2, .slice z W.length c3, .int .i64 m, .slice ga (lvL P l).length ca, .slice (some ⟨va, 0, none⟩) (tbS S F).length (tbS S F).length] 104) := ⟨_, rfl⟩
  have hG := g7_of_wb (Wb.new w1 104 #[.slice p P.length c, .int .i64 l, .slice x F.length c2, .slice z W.length c3, .int .i64 m, .slice ga (lvL P l).length ca, .slice (some ⟨va, 0, none⟩) (tbS S F).length (tbS S F).length])
  rw [← hW2] at hG
  have BW : Below w1.heap.size w1 W2 := by rw [hW2]; exact Below.alloc' (Below.refl _ _) _
  have BW2 : Below w.heap.size w W2 := Below.via' B1 BW
  replace hG := Lib.hid hG
  replace hW2 := Lib.hid hW2
  obtain ⟨ka2, kb2, kc2⟩ := g1.out.below BW
  go_wp2_with fail
  rw [← hW2.out]
  refine (isSurveyFor_any _ _ _ _ _ _ P S Q _ hth.out.g hth.out.s (hPh.out.below BW2) (hSh.out.below BW2) (hQh.out.below BW2)).mono ?_
  rintro e w3 ⟨rfl, hb3⟩
  have B13 := Below.via' BW hb3
  have B3 := Below.via' B1 B13
  obtain ⟨j0, j1, j2, j3, j4, j5, j6, jl⟩ := hG.out.below hb3
  have hG3 := Lib.hid (hG.out.below hb3)
  clear ka2 kb2 kc2 hb3
  cases hsv : (dokB S (pM Q) && tyB P (pM Q))
  · have hv := Lib.hid (ri_no2 (l := l) (F := F) (W := W) (m := m) (i := i) hsv)
    go_wp2
    go_ret2
    exact riLB_no (ri_no0 hv.out) hv.out B3
  have hsv2 := hsv
  rw [Bool.and_eq_true] at hsv2
  have hdk := Lib.hid hsv2.1
  have hty := Lib.hid hsv2.2
  clear hsv2
  have hsvh := Lib.hid hsv
  have hQ40 : Q.length ≤ 40 := by have := dokB_len hdk.out; rwa [pM_len] at this
  clear hsv
  by_cases hi0 : i < 0
  · have hv := Lib.hid (ri_no3 (P := P) (S := S) (l := l) (F := F) (W := W) (m := m) (i := i) (M := pM Q) ((inB_no _ _ _).2 (by omega)))
    go_wp2
    go_ret2
    exact riLB_no (ri_no0 hv.out) hv.out B3
  go_wp2_with fail
  refine (gcount_any _ _ _ _ _ _ _ _ _ _ _ _ _ _ _ (lvL P l) (tbS S F) _ hpt.out (by omega) (hPt.out.below B13)).mono ?_
  rintro e w5 ⟨rfl, hb5⟩
  have B15 := Below.via' B13 hb5
  have B5 := Below.via' B1 B15
  have hG5 := Lib.hid (hG3.out.below hb5)
  clear j0 j1 j2 j3 j4 j5 j6 jl hb5
  by_cases hi1 : ((lvL P l).length : Int) * cnZ (tbS S F) ≤ i
  · have hv := Lib.hid (ri_no3 (P := P) (S := S) (l := l) (F := F) (W := W) (m := m) (i := i) (M := pM Q) ((inB_no _ _ _).2 (by unfold tcZ; omega)))
    go_wp2
    go_ret2
    exact riLB_no (ri_no0 hv.out) hv.out B5
  have hv := Lib.hid (ri_yes hth.out hsvh.out ((inB_iff i 0 (tcZ P S l F - 1)).2 ⟨by omega, by unfold tcZ; omega⟩))
  go_wp2
  go_loopw [14, 47] (fun u q wr => ∃ j : Nat, j ≤ Q.length ∧ q = .int .i64 j ∧ wr.ownsRow w5.heap.size 3 1 u (selK (riF P S l F W i (pM Q)) j).length (iC (selK (riF P S l F W i (pM Q)) j)) ∧ Below w5.heap.size w5 wr) (fun _ q _ => Q.length - (intOf q).toNat)
  case atStart => exact ⟨0, by omega, by go_num, World.ownsRow_nil _ _ _ _, Below.refl _ _⟩
  case round =>
    obtain ⟨j, hj, rfl, hown, hb⟩ := hrel
    have hownh := Lib.hid hown
    clear hown
    have hsl := sel_len (riF P S l F W i (pM Q)) j
    have Bw : Below w.heap.size w wr := Below.via' B5 hb
    by_cases hlt : j < Q.length
    · obtain ⟨bl, off, q, rfl, hbl, hQj, hc0, hc1, hc2⟩ := (hQh.out.2.2.below Bw).rec hlt
      obtain ⟨k, hka, hcl⟩ := sv_cl hdk.out hty.out hQj
      have hqr := Lib.hid ((hQh.out.2.1 q (List.mem_of_getElem? hQj)).2.2.below Bw)
      have hri := riF_at (P := P) (S := S) (l := l) (F := F) (W := W) (i := i) hQj
      have hclh := Lib.hid hcl
      obtain ⟨qa, qh, qx, qc, qL⟩ := q
      have hka : qa = (k : Int) := hka
      subst hka
      have hlt' : (j : Int) < (Q.length : Int) := by omega
      replace hQj := Lib.hid hQj
      replace hri : riF P S l F W i (pM Q) j = decide (clI P S l F W (k : Int) qL = i) := hri
      have hc2 : wr.cell? ⟨bl, off + j * 3 + 2, none⟩ = some (.slice qx qL.length qc) := hc2
      have BA : Below wr.heap.size wr (wr.alloc (.cells #[.int .i64 (k : Int), .int .i64 qh, .slice qx qL.length qc] 85)) := (by repeat (first | exact Below.refl _ _ | assumption | refine Below.drew ?_ | refine below_drewN ?_ _ | refine Below.alloc' ?_ _ | (refine Below.setCell ?_ (by first | omega | (simp; done) | (simp; omega) | exact Below.size (by assumption) | exact Nat.le_trans (Below.size (by assumption)) (by simp)) _) | (refine Below.via' ?_ (by assumption)) | (refine Below.alloc ?_ (by first | omega | (simp; done) | (simp; omega) | exact Below.size (by assumption) | exact Nat.le_trans (Below.size (by assumption)) (by simp)) _) | (refine Below.via ?_ (by assumption) (by first | omega | (simp; done) | (simp; omega) | exact Below.size (by assumption) | exact Nat.le_trans (Below.size (by assumption)) (by simp)))))
      obtain ⟨WA, hWA⟩ : ∃ WA, WA = wr.alloc (.cells #[.int .i64 (k : Int), .int .i64 qh, .slice qx qL.length qc] 85) := ⟨_, rfl⟩
      have hqn := RB.new wr k qh qx qL.length qc 85
      rw [← hWA] at BA hqn
      have hqn := Lib.hid hqn
      have hownA := Lib.hid (own_below hownh.out BA)
      have BwA : Below w.heap.size w WA := Below.via' Bw BA
      have B5A : Below w5.heap.size w5 WA := Below.via' hb BA
      replace hWA := Lib.hid hWA
      clear hcl
      have FF := And.intro (hG5.out.below B5A) hqn.out; rw [hWA.out] at FF; obtain ⟨⟨j0, j1, j2, j3, j4, j5, j6, jl⟩, ⟨ra, rb, rc, rd⟩⟩ := FF
      go_wp2_with fail
      rw [← hWA.out]
      refine (contrib_any _ _ _ _ _ _ _ _ _ _ _ _ P S l F W m k qh qL _ hth.out hclh.out (hPh.out.below BwA) (hFh.out.below BwA) (hWh.out.below BwA) (hAh.out.below (Below.via' B15 B5A)) (hPt.out.below (Below.via' B15 B5A)) (hqr.out.below BA)).mono ?_
      rintro e w2 ⟨rfl, hb2⟩
      have hb2' : Below w5.heap.size w5 w2 := Below.via' B5A hb2
      have ho2 := Lib.hid (own_below hownA.out hb2)
      have hs0 := hb2'.size
      by_cases hci : clI P S l F W (k : Int) qL = i
      · have ht : (clI P S l F W (k : Int) qL == i) = true := by rw [beq_iff_eq]; exact hci
        have hsel := Lib.hid (sel_yes (p := riF P S l F W i (pM Q)) (k := j) (by rw [hri]; exact decide_eq_true hci))
        replace hci := Lib.hid hci
        clear hri
        go_wp2_with (at_builtin; go_loud (refine wpList_append_rd _ rfl (.tmp 61) (.tmp 63) 22 rfl (w5.heap.size) 3 i0 (.int .i64 0) 1 8 Try.underlying22 hii hz0 hz1 hz2 rfl (by decide) _ (selK (riF P S l F W i (pM Q)) j).length (iC (selK (riF P S l F W i (pM Q)) j)) rfl ((ho2.out.alloc _)) _ 1 1 rfl (Nat.le_refl _) (by intro h; cases h) (iC [((j : Int) : Int)]) rfl (rd_oneE _ _ _ _ (by simp)) (iC_one _) (by unfold maxLen; omega) (by omega) (by simp; omega) ?_); intro v3 w3 hown3 hgrow3 hwhere3)
        obtain ⟨hb3, hl3⟩ := append_below hb2' (fun k hk => (ho2.out.lt k hk).1) hgrow3 hwhere3
        have hown3 := Lib.hid (own_snocE hown3 hsel.out rfl)
        clear hgrow3 hwhere3
        go_wp2
        go_roundw
        case rel => exact ⟨j + 1, by omega, by go_num, hown3.out, hb3⟩
        case measure => simp [intOf]; omega
      · have ht : (clI P S l F W (k : Int) qL == i) = false := by rw [beq_eq_false_iff_ne]; exact hci
        have hsel := Lib.hid (sel_no (p := riF P S l F W i (pM Q)) (k := j) (by rw [hri]; exact decide_eq_false hci))
        replace hci := Lib.hid hci
        clear hri
        go_wp2
        go_roundw
        case rel => exact ⟨j + 1, by omega, by go_num, by rw [hsel.out]; exact ho2.out, hb2'⟩
        case measure => simp [intOf]; omega
    · have hij : j = Q.length := by omega
      subst hij
      go_wp2
      go_ret2
      refine ⟨_, ret_vb hv.out.1.symm, ?_, Bw⟩
      rw [hv.out.2, pM_len]
      exact own_more hownh.out B5.size
end Go.Proofs.Ytpmbenedeakieaa

namespace Go.Proofs.Ytpmbenedeakieaa
open Go.RowKit
set_option maxRecDepth 100000

/-- A list with another's first n elements. -/
def kK (A W : List Int) (n : Nat) : List Int := A.take n ++ W.drop n
theorem kK_zero (A W : List Int) : kK A W 0 = W := by unfold kK; rw [List.take_zero, List.drop_zero, List.nil_append]
theorem kK_all {A W : List Int} {n : Nat} (h1 : A.length = n) (h2 : W.length = n) : kK A W n = A := by
  unfold kK
  rw [List.take_of_length_le (by omega), List.drop_of_length_le (by omega), List.append_nil]
theorem kK_len {A W : List Int} {n : Nat} (h1 : n ≤ A.length) (h2 : n ≤ W.length) : (kK A W n).length = W.length := by
  unfold kK
  rw [List.length_append, List.length_take, List.length_drop]
  omega
theorem kK_get {A W : List Int} {n : Nat} (h1 : n ≤ A.length) {x : Int} (h2 : W[n]? = some x) : (kK A W n)[n]? = some x := by
  unfold kK
  rw [List.getElem?_append_right (by rw [List.length_take]; omega), List.length_take, List.getElem?_drop, ← h2]
  congr 1
  omega
theorem kK_step {A W : List Int} {n : Nat} {v : Int} (h1 : A[n]? = some v) (h2 : n < W.length) : (kK A W n).set n v = kK A W (n + 1) := by
  have hA := (List.getElem?_eq_some_iff.1 h1).1
  unfold kK
  rw [take_snoc h1, List.drop_eq_getElem_cons h2, List.append_assoc, List.singleton_append]
  rw [List.set_append_right _ _ (by rw [List.length_take]; omega)]
  congr 1
  rw [List.length_take, show n - min n A.length = 0 by omega]
  rfl
theorem kK_same {A W : List Int} {n : Nat} {v : Int} (h1 : A[n]? = some v) (h2 : W[n]? = some v) : kK A W (n + 1) = kK A W n := by
  have hA := (List.getElem?_eq_some_iff.1 h1).1
  have hW := (List.getElem?_eq_some_iff.1 h2).1
  rw [← kK_step h1 hW]
  apply List.ext_getElem?
  intro j
  rw [List.getElem?_set]
  split
  · subst_vars
    rw [if_pos (by rw [kK_len (by omega) (by omega)]; exact hW), kK_get (by omega) h2]
  · rfl

/-- The sets of a normal table: 0 in place of all levels. -/
def nwL (S : List (ByteArray × Int)) (W : List Int) : List Int := List.zipWith (fun q x => if x = flZ q.2 then 0 else x) S W
section
variable {S : List (ByteArray × Int)} {W : List Int} {i : Nat} {nm : ByteArray} {lv x : Int}
theorem nwL_len (h : W.length = S.length) : (nwL S W).length = S.length := by unfold nwL; rw [List.length_zipWith, h, Nat.min_self]
theorem nwL_len2 (h : W.length = S.length) : (nwL S W).length = W.length := by rw [nwL_len h, h]
theorem nwL_yes (h1 : S[i]? = some (nm, lv)) (h2 : W[i]? = some x) (h : x = flZ lv) : (nwL S W)[i]? = some 0 := by
  unfold nwL
  rw [List.getElem?_zipWith, h1, h2]
  exact congrArg some (if_pos h)
theorem nwL_no (h1 : S[i]? = some (nm, lv)) (h2 : W[i]? = some x) (h : x ≠ flZ lv) : (nwL S W)[i]? = some x := by
  unfold nwL
  rw [List.getElem?_zipWith, h1, h2]
  exact congrArg some (if_neg h)
theorem nwL_i64 (h : ∀ n ∈ W, IsI64 n) : ∀ n ∈ nwL S W, IsI64 n := by
  intro n hn
  obtain ⟨j, hj, rfl⟩ := List.getElem_of_mem hn
  have hj' := hj
  unfold nwL at hj'
  rw [List.length_zipWith] at hj'
  have e1 : S[j]? = some (S[j].1, S[j].2) := List.getElem?_eq_getElem (by omega)
  have e2 : W[j]? = some W[j] := List.getElem?_eq_getElem (by omega)
  have e3 : (nwL S W)[j]? = some (nwL S W)[j] := List.getElem?_eq_getElem hj
  by_cases k : W[j] = flZ S[j].2
  · have := Option.some.inj (e3.symm.trans (nwL_yes e1 e2 k))
    rw [this]
    unfold IsI64
    omega
  · have := Option.some.inj (e3.symm.trans (nwL_no e1 e2 k))
    rw [this]
    exact h _ (List.getElem_mem _)
end
/-- What NormalTable answers. -/
def ntR (P : List Int) (S : List (ByteArray × Int)) (l : Int) (F W : List Int) (m : Int) : Int × List Int × List Int × Int := if tgB P S l F W m then (l, F, nwL S W, m) else (0, [], [], 0)
theorem ntR_yes {P : List Int} {S : List (ByteArray × Int)} {l : Int} {F W : List Int} {m : Int} (h : tgB P S l F W m = true) : ntR P S l F W m = (l, F, nwL S W, m) := by unfold ntR; rw [h]; rfl
theorem ntR_no {P : List Int} {S : List (ByteArray × Int)} {l : Int} {F W : List Int} {m : Int} (h : tgB P S l F W m = false) : ntR P S l F W m = (0, [], [], 0) := by unfold ntR; rw [h]; rfl
/-- A table's two lists that are owned: apart from each other, whichever lies first. -/
def OwY (w : World) (lo hi : Nat) (u v : Value) (F W : List Int) : Prop := ∃ a b c d, lo ≤ a ∧ b ≤ hi ∧ lo ≤ c ∧ d ≤ hi ∧ (b ≤ c ∨ d ≤ a) ∧ OwR w a b 3 1 u F.length (iC F) ∧ OwR w c d 3 1 v W.length (iC W)
section
variable {w w' : World} {lo hi : Nat} {u v : Value} {F W : List Int}
theorem OwY.below (h : OwY w lo hi u v F W) (hb : Below w.heap.size w w') : OwY w' lo hi u v F W := by
  obtain ⟨a, b, c, d, h1, h2, h3, h4, h5, p, q⟩ := h
  exact ⟨a, b, c, d, h1, h2, h3, h4, h5, p.below hb, q.below hb⟩
theorem OwY.off {lo2 hi2 : Nat} (h : OwY w lo hi u v F W) (hg : Off lo2 hi2 w w') (hne : hi ≤ lo2 ∨ hi2 ≤ lo) : OwY w' lo hi u v F W := by
  obtain ⟨a, b, c, d, h1, h2, h3, h4, h5, p, q⟩ := h
  exact ⟨a, b, c, d, h1, h2, h3, h4, h5, p.off hg (by omega), q.off hg (by omega)⟩
theorem OwY.keep {r : Option Nat} (h : OwY w lo hi u v F W) (hg : w.grownBy w' r) (hr : ∀ k, r = some k → k < lo ∨ hi ≤ k) : OwY w' lo hi u v F W := by
  obtain ⟨a, b, c, d, h1, h2, h3, h4, h5, p, q⟩ := h
  exact ⟨a, b, c, d, h1, h2, h3, h4, h5, p.keep hg (fun k hk => by have := hr k hk; omega), q.keep hg (fun k hk => by have := hr k hk; omega)⟩
theorem OwY.more {lo' hi' : Nat} (h : OwY w lo hi u v F W) (h1' : lo' ≤ lo) (h2' : hi ≤ hi') : OwY w lo' hi' u v F W := by
  obtain ⟨a, b, c, d, h1, h2, h3, h4, h5, p, q⟩ := h
  exact ⟨a, b, c, d, by omega, by omega, by omega, by omega, h5, p, q⟩
theorem OwY.of (h : OwT w lo hi u v F W) : OwY w lo hi u v F W := by
  obtain ⟨mid, h1, h2, a, b⟩ := h
  exact ⟨lo, mid, mid, hi, Nat.le_refl _, h2, h1, Nat.le_refl _, Or.inl (Nat.le_refl _), a, b⟩
theorem OwY.form (h : OwY w lo hi u v F W) : ∃ x c z d, u = .slice x F.length c ∧ v = .slice z W.length d := by
  obtain ⟨a, b, c, d, -, -, -, -, -, p, q⟩ := h
  obtain ⟨x, c, rfl, -⟩ := p.form
  obtain ⟨z, d, rfl, -⟩ := q.form
  exact ⟨x, c, z, d, rfl, rfl⟩
end
theorem OwY.rd {w : World} {lo hi : Nat} {x z : Option Addr} {c d : Nat} {F W : List Int} (h : OwY w lo hi (.slice x F.length c) (.slice z W.length d) F W) : Rd w x (iC F) ∧ Rd w z (iC W) := by
  obtain ⟨_, _, _, _, -, -, -, -, -, p, q⟩ := h
  exact ⟨p.rd, q.rd⟩
theorem TIn.of_owY {w : World} {lo hi : Nat} {x z : Option Addr} {c d : Nat} {F W : List Int} (h : OwY w lo hi (.slice x F.length c) (.slice z W.length d) F W) (hF : F.length ≤ 1048576) (hW : W.length ≤ 1048576) (hnF : ∀ n ∈ F, IsI64 n) (hnW : ∀ n ∈ W, IsI64 n) : TIn w x z F W := ⟨⟨hF, hnF, h.rd.1⟩, ⟨hW, hnW, h.rd.2⟩⟩
theorem grown_setN (W : World) (p : Addr) (v : Value) : W.grownBy (W.setCell p v) (some p.block) :=
  ⟨rfl, rfl, rfl, by simp [World.setCell], fun k _ hk => Below.heap_setCell _ _ _ k (fun e => hk (by rw [e]))⟩
theorem OwR.set {w : World} {lo hi size n : Nat} {e : TypeId} {u : Value} {xs : List Value} (h : OwR w lo hi e size u n xs) (p : Addr) (v : Value) (hp : p.block < lo ∨ hi ≤ p.block) : OwR (w.setCell p v) lo hi e size u n xs :=
  h.keep (grown_setN w p v) (fun k hk => by obtain rfl := Option.some.inj hk; exact hp)
/-- A table, handed back. -/
def RetT (l : Int) (F W : List Int) (m : Int) (w : World) (e : Ending) (w' : World) : Prop :=
  ∃ x c z d, e = .returned (.agg #[.int .i64 l, .slice x F.length c, .slice z W.length d, .int .i64 m]) ∧ OwY w' w.heap.size w'.heap.size (.slice x F.length c) (.slice z W.length d) F W ∧ Below w.heap.size w w'
/-- A table and a Bool, handed back. -/
def RetTB (R : Int × List Int × List Int × Int) (b : Bool) (w : World) (e : Ending) (w' : World) : Prop :=
  ∃ x c z d, e = .returned (.tuple #[.agg #[.int .i64 R.1, .slice x R.2.1.length c, .slice z R.2.2.1.length d, .int .i64 R.2.2.2], .bool b]) ∧ OwY w' w.heap.size w'.heap.size (.slice x R.2.1.length c) (.slice z R.2.2.1.length d) R.2.1 R.2.2.1 ∧ Below w.heap.size w w'
theorem retTB_no {b : Bool} {w w' : World} (k : b = false) (hB : Below w.heap.size w w') : RetTB (0, [], [], 0) b w (.returned (.tuple #[.agg #[.int .i64 0, .slice none 0 0, .slice none 0 0, .int .i64 0], .bool false])) w' := by
  subst k
  exact ⟨none, 0, none, 0, rfl, ⟨w.heap.size, w.heap.size, w.heap.size, w.heap.size, Nat.le_refl _, hB.size, Nat.le_refl _, hB.size, Or.inl (Nat.le_refl _), ⟨World.ownsRow_nil _ _ _ _, fun k hk => by cases hk⟩, ⟨World.ownsRow_nil _ _ _ _, fun k hk => by cases hk⟩⟩, hB⟩
end Go.Proofs.Ytpmbenedeakieaa

namespace Go.Proofs.Ytpmbenedeakieaa
open Go.RowKit
set_option maxRecDepth 100000

theorem TQ.set {w : World} {g : Nat} {l : Int} {x : Option Addr} {n c : Nat} {z : Option Addr} {k d : Nat} {m : Int} (h : TQ w g l x n c z k d m) (p : Addr) (v : Value) (hp : g ≠ p.block) : TQ (w.setCell p v) g l x n c z k d m := h.grown (grown_setN w p v) (fun e => hp (Option.some.inj e))
theorem ret_t {a b : Value} (h : a = b) : Ending.returned a = .returned b := by rw [h]
set_option maxHeartbeats 4000000 in
theorem nOwn_any (l : Int) (x z : Option Addr) (c d : Nat) (F W : List Int) (m : Int) (w : World) (hmF : F.length ≤ 1048576) (hmW : W.length ≤ 1048576) (hcF : F.length ≤ c) (hnF : x = none → c = 0) (hcW : W.length ≤ d) (hnW : z = none → d = 0) (hF : Rd w x (iC F)) (hW : Rd w z (iC W)) :
    Calls Try.prog 94 #[.agg #[.int .i64 l, .slice x F.length c, .slice z W.length d, .int .i64 m]] w (RetT l F W m w) := by
  have hFh := Lib.hid hF
  have hWh := Lib.hid hW
  clear hF hW
  have q0 := TQ.new w l x F.length c z W.length d m 37
  obtain ⟨W2, hW2⟩ : ∃ W2, W2 = (w.alloc (.cells #[.int .i64 l, .slice x F.length c, .slice z W.length d, .int .i64 m] 37)).alloc (.cells #[.int .i64 0, .slice none 0 0, .slice none 0 0, .int .i64 0] 37) := ⟨_, rfl⟩
  have q2 : TQ W2 w.heap.size l x F.length c z W.length d m := by rw [hW2]; exact q0.below (by repeat (first | exact Below.refl _ _ | assumption | refine Below.drew ?_ | refine below_drewN ?_ _ | refine Below.alloc' ?_ _ | (refine Below.setCell ?_ (by first | omega | (simp; done) | (simp; omega) | exact Below.size (by assumption) | exact Nat.le_trans (Below.size (by assumption)) (by simp)) _) | (refine Below.via' ?_ (by assumption)) | (refine Below.alloc ?_ (by first | omega | (simp; done) | (simp; omega) | exact Below.size (by assumption) | exact Nat.le_trans (Below.size (by assumption)) (by simp)) _) | (refine Below.via ?_ (by assumption) (by first | omega | (simp; done) | (simp; omega) | exact Below.size (by assumption) | exact Nat.le_trans (Below.size (by assumption)) (by simp)))))
  have B2 : Below w.heap.size w W2 := by rw [hW2]; exact (by repeat (first | exact Below.refl _ _ | assumption | refine Below.drew ?_ | refine below_drewN ?_ _ | refine Below.alloc' ?_ _ | (refine Below.setCell ?_ (by first | omega | (simp; done) | (simp; omega) | exact Below.size (by assumption) | exact Nat.le_trans (Below.size (by assumption)) (by simp)) _) | (refine Below.via' ?_ (by assumption)) | (refine Below.alloc ?_ (by first | omega | (simp; done) | (simp; omega) | exact Below.size (by assumption) | exact Nat.le_trans (Below.size (by assumption)) (by simp)) _) | (refine Below.via ?_ (by assumption) (by first | omega | (simp; done) | (simp; omega) | exact Below.size (by assumption) | exact Nat.le_trans (Below.size (by assumption)) (by simp)))))
  have zz := Wb.new (w.alloc (.cells #[.int .i64 l, .slice x F.length c, .slice z W.length d, .int .i64 m] 37)) 37 #[.int .i64 0, .slice none 0 0, .slice none 0 0, .int .i64 0]
  rw [← hW2, World.size_alloc] at zz
  have hs2 : W2.heap.size = w.heap.size + 1 + 1 := by rw [hW2]; simp
  replace zz := Lib.hid zz
  replace hW2 := Lib.hid hW2
  replace q2 := Lib.hid q2
  clear q0
  go_enter Try.func94, Try.ntmps94
  go_wp2_with fail
  rw [← hW2.out]
  refine wp_region_held_drew (S := fun X => Below w.heap.size w X ∧ TQ X w.heap.size l x F.length c z W.length d m) (by kernel_rfl) ⟨Below.drew B2, q2.out.below (Below.drew (Below.refl _ _))⟩ (fun hH => ?_)
  refine wpAnyH_take (i := 0) (v := ?_) rfl (by kernel_rfl) (by kernel_rfl) (by kernel_rfl) (fun _ _ _ h => h) (Or.inl ⟨by rfl, ?_⟩) (by assumption) ?_; rotate_left; · (intro wz hz; (have f0 := hz.2.1; have f1 := hz.2.2.1; have f2 := hz.2.2.2.1; have f3 := hz.2.2.2.2.1); clear hz; go_simp; try with_reducible rfl); (try simp only [Act.put, List.getElem_toArray, List.getElem_cons_succ, List.getElem_cons_zero, List.setIfInBounds_toArray, List.set_cons_zero, List.set_cons_succ])
  refine wpAnyH_take (i := 1) (v := ?_) rfl (by kernel_rfl) (by kernel_rfl) (by kernel_rfl) (fun _ _ _ h => h) (Or.inl ⟨by rfl, ?_⟩) (by assumption) ?_; rotate_left; · (intro wz hz; (have f0 := hz.2.1; have f1 := hz.2.2.1; have f2 := hz.2.2.2.1; have f3 := hz.2.2.2.2.1); clear hz; go_simp; try with_reducible rfl); (try simp only [Act.put, List.getElem_toArray, List.getElem_cons_succ, List.getElem_cons_zero, List.setIfInBounds_toArray, List.set_cons_zero, List.set_cons_succ])
  refine wpAnyH_take (i := 2) (v := ?_) rfl (by kernel_rfl) (by kernel_rfl) (by kernel_rfl) (fun _ _ _ h => h) (Or.inl ⟨by rfl, ?_⟩) (by assumption) ?_; rotate_left; · (intro wz hz; (have f0 := hz.2.1; have f1 := hz.2.2.1; have f2 := hz.2.2.2.1; have f3 := hz.2.2.2.2.1); clear hz; go_simp; try with_reducible rfl); (try simp only [Act.put, List.getElem_toArray, List.getElem_cons_succ, List.getElem_cons_zero, List.setIfInBounds_toArray, List.set_cons_zero, List.set_cons_succ])
  refine wpAnyH_take (i := 3) (v := ?_) rfl (by kernel_rfl) (by kernel_rfl) (by kernel_rfl) (fun _ _ _ h => h) (Or.inl ⟨by rfl, ?_⟩) (by assumption) ?_; rotate_left; · (intro wz hz; (have f0 := hz.2.1; have f1 := hz.2.2.1; have f2 := hz.2.2.2.1; have f3 := hz.2.2.2.2.1); clear hz; go_simp; try with_reducible rfl); (try simp only [Act.put, List.getElem_toArray, List.getElem_cons_succ, List.getElem_cons_zero, List.setIfInBounds_toArray, List.set_cons_zero, List.set_cons_succ])
  refine wpAnyH_take (i := 5) (v := ?_) rfl (by kernel_rfl) (by kernel_rfl) (by kernel_rfl) (fun _ _ _ h => h) (Or.inl ⟨by rfl, ?_⟩) (by assumption) ?_; rotate_left; · (intro wz hz; (have f0 := hz.2.1; have f1 := hz.2.2.1; have f2 := hz.2.2.2.1; have f3 := hz.2.2.2.2.1); clear hz; go_simp; try with_reducible rfl); (try simp only [Act.put, List.getElem_toArray, List.getElem_cons_succ, List.getElem_cons_zero, List.setIfInBounds_toArray, List.set_cons_zero, List.set_cons_succ])
  refine wpAnyH_take (i := 6) (v := ?_) rfl (by kernel_rfl) (by kernel_rfl) (by kernel_rfl) (fun _ _ _ h => h) (Or.inl ⟨by rfl, ?_⟩) (by assumption) ?_; rotate_left; · (intro wz hz; (have f0 := hz.2.1; have f1 := hz.2.2.1; have f2 := hz.2.2.2.1; have f3 := hz.2.2.2.2.1); clear hz; go_simp; try with_reducible rfl); (try simp only [Act.put, List.getElem_toArray, List.getElem_cons_succ, List.getElem_cons_zero, List.setIfInBounds_toArray, List.set_cons_zero, List.set_cons_succ])
  refine wpAnyH_take (i := 8) (v := ?_) rfl (by kernel_rfl) (by kernel_rfl) (by kernel_rfl) (fun _ _ _ h => h) (Or.inl ⟨by rfl, ?_⟩) (by assumption) ?_; rotate_left; · (intro wz hz; (have f0 := hz.2.1; have f1 := hz.2.2.1; have f2 := hz.2.2.2.1; have f3 := hz.2.2.2.2.1); clear hz; go_simp; try with_reducible rfl); (try simp only [Act.put, List.getElem_toArray, List.getElem_cons_succ, List.getElem_cons_zero, List.setIfInBounds_toArray, List.set_cons_zero, List.set_cons_succ])
  refine wpAnyH_take (i := 9) (v := ?_) rfl (by kernel_rfl) (by kernel_rfl) (by kernel_rfl) (fun _ _ _ h => h) (Or.inl ⟨by rfl, ?_⟩) (by assumption) ?_; rotate_left; · (intro wz hz; (have f0 := hz.2.1; have f1 := hz.2.2.1; have f2 := hz.2.2.2.1; have f3 := hz.2.2.2.2.1); clear hz; go_simp; try with_reducible rfl); (try simp only [Act.put, List.getElem_toArray, List.getElem_cons_succ, List.getElem_cons_zero, List.setIfInBounds_toArray, List.set_cons_zero, List.set_cons_succ])
  refine wpAnyH_ready (rs := [4]) (by kernel_rfl) (by simp) (AllReadyH.cons rfl (fun K hK => ?_) AllReadyH.nil); go_simp
  go_simp; refine (l1Own_any x c F _ hmF hcF hnF (hFh.out.below (by exact (by repeat (first | exact Below.refl _ _ | assumption | refine Below.drew ?_ | refine below_drewN ?_ _ | refine Below.alloc' ?_ _ | (refine Below.setCell ?_ (by first | omega | (simp; done) | (simp; omega) | exact Below.size (by assumption) | exact Nat.le_trans (Below.size (by assumption)) (by simp)) _) | (refine Below.via' ?_ (by assumption)) | (refine Below.alloc ?_ (by first | omega | (simp; done) | (simp; omega) | exact Below.size (by assumption) | exact Nat.le_trans (Below.size (by assumption)) (by simp)) _) | (refine Below.via ?_ (by assumption) (by first | omega | (simp; done) | (simp; omega) | exact Below.size (by assumption) | exact Nat.le_trans (Below.size (by assumption)) (by simp)))))))).mono ?_; rintro e wF ⟨uF, rfl, hoF, hbF⟩; (have hOF := Lib.hid (OwR.of hoF)); (obtain ⟨xF, cF, rfl, -, -⟩ := hOF.out.form); clear hoF; refine hK.out _ _ ⟨Below.via' hH.1 hbF, hH.2.below hbF⟩ (fun hHF => ?_); clear hK K; (try simp only [Act.put, List.getElem_toArray, List.getElem_cons_succ, List.getElem_cons_zero, List.setIfInBounds_toArray, List.set_cons_zero, List.set_cons_succ])
  refine wpAnyH_ready (rs := [7]) (by kernel_rfl) (by simp) (AllReadyH.cons rfl (fun K hK => ?_) AllReadyH.nil); go_simp
  go_simp; refine (l1Own_any z d W _ hmW hcW hnW (hWh.out.below (by exact (by repeat (first | exact Below.refl _ _ | assumption | refine Below.drew ?_ | refine below_drewN ?_ _ | refine Below.alloc' ?_ _ | (refine Below.setCell ?_ (by first | omega | (simp; done) | (simp; omega) | exact Below.size (by assumption) | exact Nat.le_trans (Below.size (by assumption)) (by simp)) _) | (refine Below.via' ?_ (by assumption)) | (refine Below.alloc ?_ (by first | omega | (simp; done) | (simp; omega) | exact Below.size (by assumption) | exact Nat.le_trans (Below.size (by assumption)) (by simp)) _) | (refine Below.via ?_ (by assumption) (by first | omega | (simp; done) | (simp; omega) | exact Below.size (by assumption) | exact Nat.le_trans (Below.size (by assumption)) (by simp)))))))).mono ?_; rintro e wW ⟨uW, rfl, hoW, hbW⟩; (have hOW := Lib.hid (OwR.of hoW)); (obtain ⟨xW, cW, rfl, -, -⟩ := hOW.out.form); clear hoW; refine hK.out _ _ ⟨Below.via' hHF.1 hbW, hHF.2.below hbW⟩ (fun hHW => ?_); clear hK K; (try simp only [Act.put, List.getElem_toArray, List.getElem_cons_succ, List.getElem_cons_zero, List.setIfInBounds_toArray, List.set_cons_zero, List.set_cons_succ])
  refine wpAnyH_take (i := 10) (v := ?_) rfl (by kernel_rfl) (by kernel_rfl) (by kernel_rfl) (fun _ _ _ h => h) (Or.inl ⟨by rfl, ?_⟩) (by assumption) ?_; rotate_left; · (intro wz hz; (skip); clear hz; go_simp; try with_reducible rfl); (try simp only [Act.put, List.getElem_toArray, List.getElem_cons_succ, List.getElem_cons_zero, List.setIfInBounds_toArray, List.set_cons_zero, List.set_cons_succ])
  have zW := Lib.hid (((show Wb W2.drew (w.heap.size + 1) 37 #[.int .i64 0, .slice none 0 0, .slice none 0 0, .int .i64 0] from zz.out).kept hbF).kept hbW)
  have e1 := hbF.size
  have e2 := hbW.size
  have e0 : W2.drew.heap.size = W2.heap.size := rfl
  have ya := zW.out.read 0; have yb := zW.out.read 1; have yc := zW.out.read 2; have yd := zW.out.read 3; have ye := zW.out.free 0; have yf := zW.out.free 1; have yg := zW.out.free 2; have yh := zW.out.free 3
  have yin := zW.out.inside
  refine wpAnyH_ready (rs := [11]) (by kernel_rfl) (by simp) (AllReadyH.cons rfl (fun K hK => ?_) AllReadyH.nil); go_simp
  have hHW1 := hHW.1
  refine hK.out _ _ ⟨(by repeat (first | exact Below.refl _ _ | assumption | refine Below.drew ?_ | refine below_drewN ?_ _ | refine Below.alloc' ?_ _ | (refine Below.setCell ?_ (by first | omega | (simp; done) | (simp; omega) | exact Below.size (by assumption) | exact Nat.le_trans (Below.size (by assumption)) (by simp)) _) | (refine Below.via' ?_ (by assumption)) | (refine Below.alloc ?_ (by first | omega | (simp; done) | (simp; omega) | exact Below.size (by assumption) | exact Nat.le_trans (Below.size (by assumption)) (by simp)) _) | (refine Below.via ?_ (by assumption) (by first | omega | (simp; done) | (simp; omega) | exact Below.size (by assumption) | exact Nat.le_trans (Below.size (by assumption)) (by simp))))), (((hHW.2.set _ _ (by simp)).set _ _ (by simp)).set _ _ (by simp)).set _ _ (by simp)⟩ (fun hE => ?_)
  clear hK K
  (try simp only [Act.put, List.getElem_toArray, List.getElem_cons_succ, List.getElem_cons_zero, List.setIfInBounds_toArray, List.set_cons_zero, List.set_cons_succ])
  refine wpAnyH_done (by kernel_rfl) ?_ _
  go_wp2_with fail
  refine bodyPost_ret (v := .agg #[.int .i64 l, .slice xF F.length cF, .slice xW W.length cW, .int .i64 m]) (by simp [results, Try.results94, go_sem, *]) rfl ⟨_, _, _, _, rfl, ⟨W2.heap.size, wF.heap.size, wF.heap.size, wW.heap.size, by omega, by simp; omega, by omega, by simp, Or.inl (Nat.le_refl _), ?_, ?_⟩, hE.1⟩
  · repeat (refine OwR.set ?_ _ _ (Or.inl (by simp; omega)))
    exact hOF.out.below hbW
  · repeat (refine OwR.set ?_ _ _ (Or.inl (by simp; omega)))
    exact hOW.out
set_option maxHeartbeats 32000000 in
theorem copyTable_any (l : Int) (x z : Option Addr) (c d : Nat) (F W : List Int) (m : Int) (w : World) (hmF : F.length ≤ 1048576) (hmW : W.length ≤ 1048576) (hcF : F.length ≤ c) (hnF : x = none → c = 0) (hcW : W.length ≤ d) (hnW : z = none → d = 0) (hF : Rd w x (iC F)) (hW : Rd w z (iC W)) :
    Calls Try.prog 99 #[.agg #[.int .i64 l, .slice x F.length c, .slice z W.length d, .int .i64 m]] w (RetT l F W m w) := by
  have hFh := Lib.hid hF
  have hWh := Lib.hid hW
  clear hF hW
  have q0 := Wb.new w 37 #[.int .i64 l, .slice x F.length c, .slice z W.length d, .int .i64 m]
  obtain ⟨W2, hW2⟩ : ∃ W2, W2 = (w.alloc (.cells #[.int .i64 l, .slice x F.length c, .slice z W.length d, .int .i64 m] 37)).alloc (.cells #[.int .i64 0, .slice none 0 0, .slice none 0 0, .int .i64 0] 37) := ⟨_, rfl⟩
  replace q0 := q0.kept (show Below (w.alloc (.cells #[.int .i64 l, .slice x F.length c, .slice z W.length d, .int .i64 m] 37)).heap.size (w.alloc (.cells #[.int .i64 l, .slice x F.length c, .slice z W.length d, .int .i64 m] 37)) W2 from by rw [hW2]; exact (by repeat (first | exact Below.refl _ _ | assumption | refine Below.drew ?_ | refine below_drewN ?_ _ | refine Below.alloc' ?_ _ | (refine Below.setCell ?_ (by first | omega | (simp; done) | (simp; omega) | exact Below.size (by assumption) | exact Nat.le_trans (Below.size (by assumption)) (by simp)) _) | (refine Below.via' ?_ (by assumption)) | (refine Below.alloc ?_ (by first | omega | (simp; done) | (simp; omega) | exact Below.size (by assumption) | exact Nat.le_trans (Below.size (by assumption)) (by simp)) _) | (refine Below.via ?_ (by assumption) (by first | omega | (simp; done) | (simp; omega) | exact Below.size (by assumption) | exact Nat.le_trans (Below.size (by assumption)) (by simp))))))
  have B2 : Below w.heap.size w W2 := by rw [hW2]; exact (by repeat (first | exact Below.refl _ _ | assumption | refine Below.drew ?_ | refine below_drewN ?_ _ | refine Below.alloc' ?_ _ | (refine Below.setCell ?_ (by first | omega | (simp; done) | (simp; omega) | exact Below.size (by assumption) | exact Nat.le_trans (Below.size (by assumption)) (by simp)) _) | (refine Below.via' ?_ (by assumption)) | (refine Below.alloc ?_ (by first | omega | (simp; done) | (simp; omega) | exact Below.size (by assumption) | exact Nat.le_trans (Below.size (by assumption)) (by simp)) _) | (refine Below.via ?_ (by assumption) (by first | omega | (simp; done) | (simp; omega) | exact Below.size (by assumption) | exact Nat.le_trans (Below.size (by assumption)) (by simp)))))
  have zz := Wb.new (w.alloc (.cells #[.int .i64 l, .slice x F.length c, .slice z W.length d, .int .i64 m] 37)) 37 #[.int .i64 0, .slice none 0 0, .slice none 0 0, .int .i64 0]
  rw [← hW2, World.size_alloc] at zz
  have hs2 : W2.heap.size = w.heap.size + 1 + 1 := by rw [hW2]; simp
  replace zz := Lib.hid zz
  replace hW2 := Lib.hid hW2
  replace q0 := Lib.hid q0
  have pa := q0.out.read 0; have pb := q0.out.read 1; have pc := q0.out.read 2; have pd := q0.out.read 3; have pe := q0.out.free 0; have pf := q0.out.free 1; have pg := q0.out.free 2; have ph := q0.out.free 3
  clear pa pb pc pd pe pf pg ph
  have q1 := Lib.hid (show Wb W2.drew w.heap.size 37 #[.int .i64 l, .slice x F.length c, .slice z W.length d, .int .i64 m] from q0.out)
  have z1 := Lib.hid (show Wb W2.drew (w.heap.size + 1) 37 #[.int .i64 0, .slice none 0 0, .slice none 0 0, .int .i64 0] from zz.out)
  have p1 := q1.out.read 1
  have p2 := q1.out.read 2
  have e0 : W2.drew.heap.size = W2.heap.size := rfl
  clear q0 zz
  go_enter Try.func99, Try.ntmps99
  go_wp2_with fail
  rw [← hW2.out]
  refine wp_region_held_drew (S := fun X => Below w.heap.size w X) (by kernel_rfl) (Below.drew B2) (fun hH => ?_)
  refine wpAnyH_take (i := 0) (v := ?_) rfl (by kernel_rfl) (by kernel_rfl) (by kernel_rfl) (fun _ _ _ h => h) (Or.inl ⟨by rfl, ?_⟩) (by assumption) ?_; rotate_left; · (intro wz hz; (skip); clear hz; go_simp; try with_reducible rfl); (try simp only [Act.put, List.getElem_toArray, List.getElem_cons_succ, List.getElem_cons_zero, List.setIfInBounds_toArray, List.set_cons_zero, List.set_cons_succ])
  refine wpAnyH_take (i := 3) (v := ?_) rfl (by kernel_rfl) (by kernel_rfl) (by kernel_rfl) (fun _ _ _ h => h) (Or.inl ⟨by rfl, ?_⟩) (by assumption) ?_; rotate_left; · (intro wz hz; (skip); clear hz; go_simp; try with_reducible rfl); (try simp only [Act.put, List.getElem_toArray, List.getElem_cons_succ, List.getElem_cons_zero, List.setIfInBounds_toArray, List.set_cons_zero, List.set_cons_succ])
  refine wpAnyH_ready (rs := [1, 4]) (by kernel_rfl) (by simp) (AllReadyH.cons rfl (fun K hK => ?_) (AllReadyH.cons rfl (fun K hK => ?_) AllReadyH.nil))
  go_simp; refine hK.out _ _ hH (fun _ => ?_); clear hK K; (try simp only [Act.put, List.getElem_toArray, List.getElem_cons_succ, List.getElem_cons_zero, List.setIfInBounds_toArray, List.set_cons_zero, List.set_cons_succ])
  refine wpAnyH_ready (rs := [2, 4]) (by kernel_rfl) (by simp) (AllReadyH.cons rfl (fun K hK => ?_) (AllReadyH.cons rfl (fun K hK => ?_) AllReadyH.nil))
  go_simp; refine (cloneInt_any x c F _ hmF hcF hnF (hFh.out.below (by exact (by repeat (first | exact Below.refl _ _ | assumption | refine Below.drew ?_ | refine below_drewN ?_ _ | refine Below.alloc' ?_ _ | (refine Below.setCell ?_ (by first | omega | (simp; done) | (simp; omega) | exact Below.size (by assumption) | exact Nat.le_trans (Below.size (by assumption)) (by simp)) _) | (refine Below.via' ?_ (by assumption)) | (refine Below.alloc ?_ (by first | omega | (simp; done) | (simp; omega) | exact Below.size (by assumption) | exact Nat.le_trans (Below.size (by assumption)) (by simp)) _) | (refine Below.via ?_ (by assumption) (by first | omega | (simp; done) | (simp; omega) | exact Below.size (by assumption) | exact Nat.le_trans (Below.size (by assumption)) (by simp)))))))).mono ?_; rintro e wF ⟨uF, rfl, hoF, hbF⟩; (have hOF := Lib.hid (OwR.of hoF)); (obtain ⟨xF, cF, rfl, -, -⟩ := hOF.out.form); clear hoF p1 p2; (have qF := Lib.hid (q1.out.kept hbF)); (have p1 := qF.out.read 1); (have p2 := qF.out.read 2); refine hK.out _ _ (Below.via' hH hbF) (fun hHF => ?_); clear hK K; (try simp only [Act.put, List.getElem_toArray, List.getElem_cons_succ, List.getElem_cons_zero, List.setIfInBounds_toArray, List.set_cons_zero, List.set_cons_succ])
  refine wpAnyH_ready (rs := [4]) (by kernel_rfl) (by simp) (AllReadyH.cons rfl (fun K hK => ?_) AllReadyH.nil); go_simp
  go_simp; refine hK.out _ _ hHF (fun _ => ?_); clear hK K; (try simp only [Act.put, List.getElem_toArray, List.getElem_cons_succ, List.getElem_cons_zero, List.setIfInBounds_toArray, List.set_cons_zero, List.set_cons_succ])
  refine wpAnyH_take (i := 6) (v := ?_) rfl (by kernel_rfl) (by kernel_rfl) (by kernel_rfl) (fun _ _ _ h => h) (Or.inl ⟨by rfl, ?_⟩) (by assumption) ?_; rotate_left; · (intro wz hz; (skip); clear hz; go_simp; try with_reducible rfl); (try simp only [Act.put, List.getElem_toArray, List.getElem_cons_succ, List.getElem_cons_zero, List.setIfInBounds_toArray, List.set_cons_zero, List.set_cons_succ])
  refine wpAnyH_ready (rs := [5]) (by kernel_rfl) (by simp) (AllReadyH.cons rfl (fun K hK => ?_) AllReadyH.nil); go_simp
  go_simp; refine (cloneInt_any z d W _ hmW hcW hnW (hWh.out.below (by exact (by repeat (first | exact Below.refl _ _ | assumption | refine Below.drew ?_ | refine below_drewN ?_ _ | refine Below.alloc' ?_ _ | (refine Below.setCell ?_ (by first | omega | (simp; done) | (simp; omega) | exact Below.size (by assumption) | exact Nat.le_trans (Below.size (by assumption)) (by simp)) _) | (refine Below.via' ?_ (by assumption)) | (refine Below.alloc ?_ (by first | omega | (simp; done) | (simp; omega) | exact Below.size (by assumption) | exact Nat.le_trans (Below.size (by assumption)) (by simp)) _) | (refine Below.via ?_ (by assumption) (by first | omega | (simp; done) | (simp; omega) | exact Below.size (by assumption) | exact Nat.le_trans (Below.size (by assumption)) (by simp)))))))).mono ?_; rintro e wW ⟨uW, rfl, hoW, hbW⟩; (have hOW := Lib.hid (OwR.of hoW)); (obtain ⟨xW, cW, rfl, -, -⟩ := hOW.out.form); clear hoW p1 p2; refine hK.out _ _ (Below.via' hHF hbW) (fun hHW => ?_); clear hK K; (try simp only [Act.put, List.getElem_toArray, List.getElem_cons_succ, List.getElem_cons_zero, List.setIfInBounds_toArray, List.set_cons_zero, List.set_cons_succ])
  have e1 := hbF.size
  have e2 := hbW.size
  have zW := Lib.hid ((z1.out.kept hbF).kept hbW)
  have qW := Lib.hid (qF.out.kept hbW)
  have u1 := qW.out.read 1
  have u2 := qW.out.free 1
  refine wpAnyH_ready (rs := [7]) (by kernel_rfl) (by simp) (AllReadyH.cons rfl (fun K hK => ?_) AllReadyH.nil); go_simp
  have h7 : Below w.heap.size w (wW.setCell ⟨w.heap.size, 1, none⟩ (.slice xF F.length cF)) := (by repeat (first | exact Below.refl _ _ | assumption | refine Below.drew ?_ | refine below_drewN ?_ _ | refine Below.alloc' ?_ _ | (refine Below.setCell ?_ (by first | omega | (simp; done) | (simp; omega) | exact Below.size (by assumption) | exact Nat.le_trans (Below.size (by assumption)) (by simp)) _) | (refine Below.via' ?_ (by assumption)) | (refine Below.alloc ?_ (by first | omega | (simp; done) | (simp; omega) | exact Below.size (by assumption) | exact Nat.le_trans (Below.size (by assumption)) (by simp)) _) | (refine Below.via ?_ (by assumption) (by first | omega | (simp; done) | (simp; omega) | exact Below.size (by assumption) | exact Nat.le_trans (Below.size (by assumption)) (by simp)))))
  refine hK.out _ _ h7 (fun _ => ?_)
  clear hK K u1 u2
  (try simp only [Act.put, List.getElem_toArray, List.getElem_cons_succ, List.getElem_cons_zero, List.setIfInBounds_toArray, List.set_cons_zero, List.set_cons_succ])
  have qX := Lib.hid (show Wb (wW.setCell ⟨w.heap.size, 1, none⟩ (.slice xF F.length cF)) w.heap.size 37 #[.int .i64 l, .slice xF F.length cF, .slice z W.length d, .int .i64 m] from qW.out.put 1 _)
  have u1 := qX.out.read 2
  have u2 := qX.out.free 2
  refine wpAnyH_take (i := 8) (v := ?_) rfl (by kernel_rfl) (by kernel_rfl) (by kernel_rfl) (fun _ _ _ h => h) (Or.inl ⟨by rfl, ?_⟩) (by assumption) ?_; rotate_left; · (intro wz hz; (skip); clear hz; go_simp; try with_reducible rfl); (try simp only [Act.put, List.getElem_toArray, List.getElem_cons_succ, List.getElem_cons_zero, List.setIfInBounds_toArray, List.set_cons_zero, List.set_cons_succ])
  refine wpAnyH_ready (rs := [9]) (by kernel_rfl) (by simp) (AllReadyH.cons rfl (fun K hK => ?_) AllReadyH.nil); go_simp
  have h9 : Below w.heap.size w ((wW.setCell ⟨w.heap.size, 1, none⟩ (.slice xF F.length cF)).setCell ⟨w.heap.size, 2, none⟩ (.slice xW W.length cW)) := (by repeat (first | exact Below.refl _ _ | assumption | refine Below.drew ?_ | refine below_drewN ?_ _ | refine Below.alloc' ?_ _ | (refine Below.setCell ?_ (by first | omega | (simp; done) | (simp; omega) | exact Below.size (by assumption) | exact Nat.le_trans (Below.size (by assumption)) (by simp)) _) | (refine Below.via' ?_ (by assumption)) | (refine Below.alloc ?_ (by first | omega | (simp; done) | (simp; omega) | exact Below.size (by assumption) | exact Nat.le_trans (Below.size (by assumption)) (by simp)) _) | (refine Below.via ?_ (by assumption) (by first | omega | (simp; done) | (simp; omega) | exact Below.size (by assumption) | exact Nat.le_trans (Below.size (by assumption)) (by simp)))))
  refine hK.out _ _ h9 (fun _ => ?_)
  clear hK K u1 u2
  (try simp only [Act.put, List.getElem_toArray, List.getElem_cons_succ, List.getElem_cons_zero, List.setIfInBounds_toArray, List.set_cons_zero, List.set_cons_succ])
  obtain ⟨X, hX⟩ : ∃ X, X = ((wW.setCell ⟨w.heap.size, 1, none⟩ (.slice xF F.length cF)).setCell ⟨w.heap.size, 2, none⟩ (.slice xW W.length cW)) := ⟨_, rfl⟩
  have qY : Wb X w.heap.size 37 #[.int .i64 l, .slice xF F.length cF, .slice xW W.length cW, .int .i64 m] := by rw [hX]; exact qX.out.put 2 _
  have zY : Wb X (w.heap.size + 1) 37 #[.int .i64 0, .slice none 0 0, .slice none 0 0, .int .i64 0] := by rw [hX]; exact ((Below.heap_setCell _ _ _ _ (by simp)).trans ((Below.heap_setCell _ _ _ _ (by simp)).trans zW.out))
  have oF : OwR X W2.heap.size wF.heap.size 3 1 (.slice xF F.length cF) F.length (iC F) := by rw [hX]; exact ((hOF.out.below hbW).set _ _ (Or.inl (by show w.heap.size < W2.heap.size; omega))).set _ _ (Or.inl (by show w.heap.size < W2.heap.size; omega))
  have oW : OwR X wF.heap.size wW.heap.size 3 1 (.slice xW W.length cW) W.length (iC W) := by rw [hX]; exact (hOW.out.set _ _ (Or.inl (by show w.heap.size < wF.heap.size; omega))).set _ _ (Or.inl (by show w.heap.size < wF.heap.size; omega))
  have sX : X.heap.size = wW.heap.size := by rw [hX]; simp
  rw [← hX]
  rw [← hX] at h9
  replace oF := Lib.hid oF
  replace oW := Lib.hid oW
  replace hX := Lib.hid hX
  have qa := qY.read 0; have qb := qY.read 1; have qc := qY.read 2; have qd := qY.read 3; have qe := qY.free 0; have qf := qY.free 1; have qg := qY.free 2; have qh := qY.free 3
  have ya := zY.read 0; have yb := zY.read 1; have yc := zY.read 2; have yd := zY.read 3; have ye := zY.free 0; have yf := zY.free 1; have yg := zY.free 2; have yh := zY.free 3
  clear qX qW zW qF z1 q1 hOF hOW hH hHF hHW h7 B2 hW2 hFh hWh qY
  refine wpAnyH_done (by kernel_rfl) ?_ _
  go_wp2_with fail
  refine bodyPost_ret (v := .agg #[.int .i64 l, .slice xF F.length cF, .slice xW W.length cW, .int .i64 m]) (by simp [results, Try.results99, go_sem, *]) rfl ⟨_, _, _, _, rfl, ⟨W2.heap.size, wF.heap.size, wF.heap.size, wW.heap.size, by omega, by simp; omega, by omega, by simp; omega, Or.inl (Nat.le_refl _), ?_, ?_⟩, ?_⟩
  repeat (refine OwR.set ?_ _ _ (Or.inl (by show w.heap.size + 1 < W2.heap.size; omega)))
  exact oF.out
  repeat (refine OwR.set ?_ _ _ (Or.inl (by show w.heap.size + 1 < wF.heap.size; omega)))
  exact oW.out
  exact (by repeat (first | exact Below.refl _ _ | assumption | refine Below.drew ?_ | refine below_drewN ?_ _ | refine Below.alloc' ?_ _ | (refine Below.setCell ?_ (by first | omega | (simp; done) | (simp; omega) | exact Below.size (by assumption) | exact Nat.le_trans (Below.size (by assumption)) (by simp)) _) | (refine Below.via' ?_ (by assumption)) | (refine Below.alloc ?_ (by first | omega | (simp; done) | (simp; omega) | exact Below.size (by assumption) | exact Nat.le_trans (Below.size (by assumption)) (by simp)) _) | (refine Below.via ?_ (by assumption) (by first | omega | (simp; done) | (simp; omega) | exact Below.size (by assumption) | exact Nat.le_trans (Below.size (by assumption)) (by simp)))))
  go_simp; refine hK.out _ _ hH (fun _ => ?_); clear hK K; (try simp only [Act.put, List.getElem_toArray, List.getElem_cons_succ, List.getElem_cons_zero, List.setIfInBounds_toArray, List.set_cons_zero, List.set_cons_succ])
  refine wpAnyH_ready (rs := [2]) (by kernel_rfl) (by simp) (AllReadyH.cons rfl (fun K hK => ?_) AllReadyH.nil); go_simp
  go_simp; refine (cloneInt_any x c F _ hmF hcF hnF (hFh.out.below (by exact (by repeat (first | exact Below.refl _ _ | assumption | refine Below.drew ?_ | refine below_drewN ?_ _ | refine Below.alloc' ?_ _ | (refine Below.setCell ?_ (by first | omega | (simp; done) | (simp; omega) | exact Below.size (by assumption) | exact Nat.le_trans (Below.size (by assumption)) (by simp)) _) | (refine Below.via' ?_ (by assumption)) | (refine Below.alloc ?_ (by first | omega | (simp; done) | (simp; omega) | exact Below.size (by assumption) | exact Nat.le_trans (Below.size (by assumption)) (by simp)) _) | (refine Below.via ?_ (by assumption) (by first | omega | (simp; done) | (simp; omega) | exact Below.size (by assumption) | exact Nat.le_trans (Below.size (by assumption)) (by simp)))))))).mono ?_; rintro e wF ⟨uF, rfl, hoF, hbF⟩; (have hOF := Lib.hid (OwR.of hoF)); (obtain ⟨xF, cF, rfl, -, -⟩ := hOF.out.form); clear hoF p1 p2; (have qF := Lib.hid (q1.out.kept hbF)); (have p1 := qF.out.read 1); (have p2 := qF.out.read 2); refine hK.out _ _ (Below.via' hH hbF) (fun hHF => ?_); clear hK K; (try simp only [Act.put, List.getElem_toArray, List.getElem_cons_succ, List.getElem_cons_zero, List.setIfInBounds_toArray, List.set_cons_zero, List.set_cons_succ])
  refine wpAnyH_take (i := 6) (v := ?_) rfl (by kernel_rfl) (by kernel_rfl) (by kernel_rfl) (fun _ _ _ h => h) (Or.inl ⟨by rfl, ?_⟩) (by assumption) ?_; rotate_left; · (intro wz hz; (skip); clear hz; go_simp; try with_reducible rfl); (try simp only [Act.put, List.getElem_toArray, List.getElem_cons_succ, List.getElem_cons_zero, List.setIfInBounds_toArray, List.set_cons_zero, List.set_cons_succ])
  refine wpAnyH_ready (rs := [5]) (by kernel_rfl) (by simp) (AllReadyH.cons rfl (fun K hK => ?_) AllReadyH.nil); go_simp
  go_simp; refine (cloneInt_any z d W _ hmW hcW hnW (hWh.out.below (by exact (by repeat (first | exact Below.refl _ _ | assumption | refine Below.drew ?_ | refine below_drewN ?_ _ | refine Below.alloc' ?_ _ | (refine Below.setCell ?_ (by first | omega | (simp; done) | (simp; omega) | exact Below.size (by assumption) | exact Nat.le_trans (Below.size (by assumption)) (by simp)) _) | (refine Below.via' ?_ (by assumption)) | (refine Below.alloc ?_ (by first | omega | (simp; done) | (simp; omega) | exact Below.size (by assumption) | exact Nat.le_trans (Below.size (by assumption)) (by simp)) _) | (refine Below.via ?_ (by assumption) (by first | omega | (simp; done) | (simp; omega) | exact Below.size (by assumption) | exact Nat.le_trans (Below.size (by assumption)) (by simp)))))))).mono ?_; rintro e wW ⟨uW, rfl, hoW, hbW⟩; (have hOW := Lib.hid (OwR.of hoW)); (obtain ⟨xW, cW, rfl, -, -⟩ := hOW.out.form); clear hoW p1 p2; refine hK.out _ _ (Below.via' hHF hbW) (fun hHW => ?_); clear hK K; (try simp only [Act.put, List.getElem_toArray, List.getElem_cons_succ, List.getElem_cons_zero, List.setIfInBounds_toArray, List.set_cons_zero, List.set_cons_succ])
  have e1 := hbF.size
  have e2 := hbW.size
  have zW := Lib.hid ((z1.out.kept hbF).kept hbW)
  have qW := Lib.hid (qF.out.kept hbW)
  have u1 := qW.out.read 1
  have u2 := qW.out.free 1
  refine wpAnyH_ready (rs := [7]) (by kernel_rfl) (by simp) (AllReadyH.cons rfl (fun K hK => ?_) AllReadyH.nil); go_simp
  have h7 : Below w.heap.size w (wW.setCell ⟨w.heap.size, 1, none⟩ (.slice xF F.length cF)) := (by repeat (first | exact Below.refl _ _ | assumption | refine Below.drew ?_ | refine below_drewN ?_ _ | refine Below.alloc' ?_ _ | (refine Below.setCell ?_ (by first | omega | (simp; done) | (simp; omega) | exact Below.size (by assumption) | exact Nat.le_trans (Below.size (by assumption)) (by simp)) _) | (refine Below.via' ?_ (by assumption)) | (refine Below.alloc ?_ (by first | omega | (simp; done) | (simp; omega) | exact Below.size (by assumption) | exact Nat.le_trans (Below.size (by assumption)) (by simp)) _) | (refine Below.via ?_ (by assumption) (by first | omega | (simp; done) | (simp; omega) | exact Below.size (by assumption) | exact Nat.le_trans (Below.size (by assumption)) (by simp)))))
  refine hK.out _ _ h7 (fun _ => ?_)
  clear hK K u1 u2
  (try simp only [Act.put, List.getElem_toArray, List.getElem_cons_succ, List.getElem_cons_zero, List.setIfInBounds_toArray, List.set_cons_zero, List.set_cons_succ])
  have qX := Lib.hid (show Wb (wW.setCell ⟨w.heap.size, 1, none⟩ (.slice xF F.length cF)) w.heap.size 37 #[.int .i64 l, .slice xF F.length cF, .slice z W.length d, .int .i64 m] from qW.out.put 1 _)
  have u1 := qX.out.read 2
  have u2 := qX.out.free 2
  refine wpAnyH_take (i := 8) (v := ?_) rfl (by kernel_rfl) (by kernel_rfl) (by kernel_rfl) (fun _ _ _ h => h) (Or.inl ⟨by rfl, ?_⟩) (by assumption) ?_; rotate_left; · (intro wz hz; (skip); clear hz; go_simp; try with_reducible rfl); (try simp only [Act.put, List.getElem_toArray, List.getElem_cons_succ, List.getElem_cons_zero, List.setIfInBounds_toArray, List.set_cons_zero, List.set_cons_succ])
  refine wpAnyH_ready (rs := [9]) (by kernel_rfl) (by simp) (AllReadyH.cons rfl (fun K hK => ?_) AllReadyH.nil); go_simp
  have h9 : Below w.heap.size w ((wW.setCell ⟨w.heap.size, 1, none⟩ (.slice xF F.length cF)).setCell ⟨w.heap.size, 2, none⟩ (.slice xW W.length cW)) := (by repeat (first | exact Below.refl _ _ | assumption | refine Below.drew ?_ | refine below_drewN ?_ _ | refine Below.alloc' ?_ _ | (refine Below.setCell ?_ (by first | omega | (simp; done) | (simp; omega) | exact Below.size (by assumption) | exact Nat.le_trans (Below.size (by assumption)) (by simp)) _) | (refine Below.via' ?_ (by assumption)) | (refine Below.alloc ?_ (by first | omega | (simp; done) | (simp; omega) | exact Below.size (by assumption) | exact Nat.le_trans (Below.size (by assumption)) (by simp)) _) | (refine Below.via ?_ (by assumption) (by first | omega | (simp; done) | (simp; omega) | exact Below.size (by assumption) | exact Nat.le_trans (Below.size (by assumption)) (by simp)))))
  refine hK.out _ _ h9 (fun _ => ?_)
  clear hK K u1 u2
  (try simp only [Act.put, List.getElem_toArray, List.getElem_cons_succ, List.getElem_cons_zero, List.setIfInBounds_toArray, List.set_cons_zero, List.set_cons_succ])
  obtain ⟨X, hX⟩ : ∃ X, X = ((wW.setCell ⟨w.heap.size, 1, none⟩ (.slice xF F.length cF)).setCell ⟨w.heap.size, 2, none⟩ (.slice xW W.length cW)) := ⟨_, rfl⟩
  have qY : Wb X w.heap.size 37 #[.int .i64 l, .slice xF F.length cF, .slice xW W.length cW, .int .i64 m] := by rw [hX]; exact qX.out.put 2 _
  have zY : Wb X (w.heap.size + 1) 37 #[.int .i64 0, .slice none 0 0, .slice none 0 0, .int .i64 0] := by rw [hX]; exact ((Below.heap_setCell _ _ _ _ (by simp)).trans ((Below.heap_setCell _ _ _ _ (by simp)).trans zW.out))
  have oF : OwR X W2.heap.size wF.heap.size 3 1 (.slice xF F.length cF) F.length (iC F) := by rw [hX]; exact ((hOF.out.below hbW).set _ _ (Or.inl (by show w.heap.size < W2.heap.size; omega))).set _ _ (Or.inl (by show w.heap.size < W2.heap.size; omega))
  have oW : OwR X wF.heap.size wW.heap.size 3 1 (.slice xW W.length cW) W.length (iC W) := by rw [hX]; exact (hOW.out.set _ _ (Or.inl (by show w.heap.size < wF.heap.size; omega))).set _ _ (Or.inl (by show w.heap.size < wF.heap.size; omega))
  have sX : X.heap.size = wW.heap.size := by rw [hX]; simp
  rw [← hX]
  rw [← hX] at h9
  replace oF := Lib.hid oF
  replace oW := Lib.hid oW
  replace hX := Lib.hid hX
  have qa := qY.read 0; have qb := qY.read 1; have qc := qY.read 2; have qd := qY.read 3; have qe := qY.free 0; have qf := qY.free 1; have qg := qY.free 2; have qh := qY.free 3
  have ya := zY.read 0; have yb := zY.read 1; have yc := zY.read 2; have yd := zY.read 3; have ye := zY.free 0; have yf := zY.free 1; have yg := zY.free 2; have yh := zY.free 3
  clear qX qW zW qF z1 q1 hOF hOW hH hHF hHW h7 B2 hW2 hFh hWh qY
  refine wpAnyH_done (by kernel_rfl) ?_ _
  go_wp2_with fail
  refine bodyPost_ret (v := .agg #[.int .i64 l, .slice xF F.length cF, .slice xW W.length cW, .int .i64 m]) (by simp [results, Try.results99, go_sem, *]) rfl ⟨_, _, _, _, rfl, ⟨W2.heap.size, wF.heap.size, wF.heap.size, wW.heap.size, by omega, by simp; omega, by omega, by simp; omega, Or.inl (Nat.le_refl _), ?_, ?_⟩, ?_⟩
  repeat (refine OwR.set ?_ _ _ (Or.inl (by show w.heap.size + 1 < W2.heap.size; omega)))
  exact oF.out
  repeat (refine OwR.set ?_ _ _ (Or.inl (by show w.heap.size + 1 < wF.heap.size; omega)))
  exact oW.out
  exact (by repeat (first | exact Below.refl _ _ | assumption | refine Below.drew ?_ | refine below_drewN ?_ _ | refine Below.alloc' ?_ _ | (refine Below.setCell ?_ (by first | omega | (simp; done) | (simp; omega) | exact Below.size (by assumption) | exact Nat.le_trans (Below.size (by assumption)) (by simp)) _) | (refine Below.via' ?_ (by assumption)) | (refine Below.alloc ?_ (by first | omega | (simp; done) | (simp; omega) | exact Below.size (by assumption) | exact Nat.le_trans (Below.size (by assumption)) (by simp)) _) | (refine Below.via ?_ (by assumption) (by first | omega | (simp; done) | (simp; omega) | exact Below.size (by assumption) | exact Nat.le_trans (Below.size (by assumption)) (by simp)))))
  go_simp; refine hK.out _ _ hH (fun _ => ?_); clear hK K; (try simp only [Act.put, List.getElem_toArray, List.getElem_cons_succ, List.getElem_cons_zero, List.setIfInBounds_toArray, List.set_cons_zero, List.set_cons_succ])
  refine wpAnyH_ready (rs := [1]) (by kernel_rfl) (by simp) (AllReadyH.cons rfl (fun K hK => ?_) AllReadyH.nil); go_simp
  go_simp; refine hK.out _ _ hH (fun _ => ?_); clear hK K; (try simp only [Act.put, List.getElem_toArray, List.getElem_cons_succ, List.getElem_cons_zero, List.setIfInBounds_toArray, List.set_cons_zero, List.set_cons_succ])
  refine wpAnyH_ready (rs := [2]) (by kernel_rfl) (by simp) (AllReadyH.cons rfl (fun K hK => ?_) AllReadyH.nil); go_simp
  go_simp; refine (cloneInt_any x c F _ hmF hcF hnF (hFh.out.below (by exact (by repeat (first | exact Below.refl _ _ | assumption | refine Below.drew ?_ | refine below_drewN ?_ _ | refine Below.alloc' ?_ _ | (refine Below.setCell ?_ (by first | omega | (simp; done) | (simp; omega) | exact Below.size (by assumption) | exact Nat.le_trans (Below.size (by assumption)) (by simp)) _) | (refine Below.via' ?_ (by assumption)) | (refine Below.alloc ?_ (by first | omega | (simp; done) | (simp; omega) | exact Below.size (by assumption) | exact Nat.le_trans (Below.size (by assumption)) (by simp)) _) | (refine Below.via ?_ (by assumption) (by first | omega | (simp; done) | (simp; omega) | exact Below.size (by assumption) | exact Nat.le_trans (Below.size (by assumption)) (by simp)))))))).mono ?_; rintro e wF ⟨uF, rfl, hoF, hbF⟩; (have hOF := Lib.hid (OwR.of hoF)); (obtain ⟨xF, cF, rfl, -, -⟩ := hOF.out.form); clear hoF p1 p2; (have qF := Lib.hid (q1.out.kept hbF)); (have p1 := qF.out.read 1); (have p2 := qF.out.read 2); refine hK.out _ _ (Below.via' hH hbF) (fun hHF => ?_); clear hK K; (try simp only [Act.put, List.getElem_toArray, List.getElem_cons_succ, List.getElem_cons_zero, List.setIfInBounds_toArray, List.set_cons_zero, List.set_cons_succ])
  refine wpAnyH_take (i := 6) (v := ?_) rfl (by kernel_rfl) (by kernel_rfl) (by kernel_rfl) (fun _ _ _ h => h) (Or.inl ⟨by rfl, ?_⟩) (by assumption) ?_; rotate_left; · (intro wz hz; (skip); clear hz; go_simp; try with_reducible rfl); (try simp only [Act.put, List.getElem_toArray, List.getElem_cons_succ, List.getElem_cons_zero, List.setIfInBounds_toArray, List.set_cons_zero, List.set_cons_succ])
  refine wpAnyH_ready (rs := [5]) (by kernel_rfl) (by simp) (AllReadyH.cons rfl (fun K hK => ?_) AllReadyH.nil); go_simp
  go_simp; refine (cloneInt_any z d W _ hmW hcW hnW (hWh.out.below (by exact (by repeat (first | exact Below.refl _ _ | assumption | refine Below.drew ?_ | refine below_drewN ?_ _ | refine Below.alloc' ?_ _ | (refine Below.setCell ?_ (by first | omega | (simp; done) | (simp; omega) | exact Below.size (by assumption) | exact Nat.le_trans (Below.size (by assumption)) (by simp)) _) | (refine Below.via' ?_ (by assumption)) | (refine Below.alloc ?_ (by first | omega | (simp; done) | (simp; omega) | exact Below.size (by assumption) | exact Nat.le_trans (Below.size (by assumption)) (by simp)) _) | (refine Below.via ?_ (by assumption) (by first | omega | (simp; done) | (simp; omega) | exact Below.size (by assumption) | exact Nat.le_trans (Below.size (by assumption)) (by simp)))))))).mono ?_; rintro e wW ⟨uW, rfl, hoW, hbW⟩; (have hOW := Lib.hid (OwR.of hoW)); (obtain ⟨xW, cW, rfl, -, -⟩ := hOW.out.form); clear hoW p1 p2; refine hK.out _ _ (Below.via' hHF hbW) (fun hHW => ?_); clear hK K; (try simp only [Act.put, List.getElem_toArray, List.getElem_cons_succ, List.getElem_cons_zero, List.setIfInBounds_toArray, List.set_cons_zero, List.set_cons_succ])
  have e1 := hbF.size
  have e2 := hbW.size
  have zW := Lib.hid ((z1.out.kept hbF).kept hbW)
  have qW := Lib.hid (qF.out.kept hbW)
  have u1 := qW.out.read 1
  have u2 := qW.out.free 1
  refine wpAnyH_ready (rs := [7]) (by kernel_rfl) (by simp) (AllReadyH.cons rfl (fun K hK => ?_) AllReadyH.nil); go_simp
  have h7 : Below w.heap.size w (wW.setCell ⟨w.heap.size, 1, none⟩ (.slice xF F.length cF)) := (by repeat (first | exact Below.refl _ _ | assumption | refine Below.drew ?_ | refine below_drewN ?_ _ | refine Below.alloc' ?_ _ | (refine Below.setCell ?_ (by first | omega | (simp; done) | (simp; omega) | exact Below.size (by assumption) | exact Nat.le_trans (Below.size (by assumption)) (by simp)) _) | (refine Below.via' ?_ (by assumption)) | (refine Below.alloc ?_ (by first | omega | (simp; done) | (simp; omega) | exact Below.size (by assumption) | exact Nat.le_trans (Below.size (by assumption)) (by simp)) _) | (refine Below.via ?_ (by assumption) (by first | omega | (simp; done) | (simp; omega) | exact Below.size (by assumption) | exact Nat.le_trans (Below.size (by assumption)) (by simp)))))
  refine hK.out _ _ h7 (fun _ => ?_)
  clear hK K u1 u2
  (try simp only [Act.put, List.getElem_toArray, List.getElem_cons_succ, List.getElem_cons_zero, List.setIfInBounds_toArray, List.set_cons_zero, List.set_cons_succ])
  have qX := Lib.hid (show Wb (wW.setCell ⟨w.heap.size, 1, none⟩ (.slice xF F.length cF)) w.heap.size 37 #[.int .i64 l, .slice xF F.length cF, .slice z W.length d, .int .i64 m] from qW.out.put 1 _)
  have u1 := qX.out.read 2
  have u2 := qX.out.free 2
  refine wpAnyH_take (i := 8) (v := ?_) rfl (by kernel_rfl) (by kernel_rfl) (by kernel_rfl) (fun _ _ _ h => h) (Or.inl ⟨by rfl, ?_⟩) (by assumption) ?_; rotate_left; · (intro wz hz; (skip); clear hz; go_simp; try with_reducible rfl); (try simp only [Act.put, List.getElem_toArray, List.getElem_cons_succ, List.getElem_cons_zero, List.setIfInBounds_toArray, List.set_cons_zero, List.set_cons_succ])
  refine wpAnyH_ready (rs := [9]) (by kernel_rfl) (by simp) (AllReadyH.cons rfl (fun K hK => ?_) AllReadyH.nil); go_simp
  have h9 : Below w.heap.size w ((wW.setCell ⟨w.heap.size, 1, none⟩ (.slice xF F.length cF)).setCell ⟨w.heap.size, 2, none⟩ (.slice xW W.length cW)) := (by repeat (first | exact Below.refl _ _ | assumption | refine Below.drew ?_ | refine below_drewN ?_ _ | refine Below.alloc' ?_ _ | (refine Below.setCell ?_ (by first | omega | (simp; done) | (simp; omega) | exact Below.size (by assumption) | exact Nat.le_trans (Below.size (by assumption)) (by simp)) _) | (refine Below.via' ?_ (by assumption)) | (refine Below.alloc ?_ (by first | omega | (simp; done) | (simp; omega) | exact Below.size (by assumption) | exact Nat.le_trans (Below.size (by assumption)) (by simp)) _) | (refine Below.via ?_ (by assumption) (by first | omega | (simp; done) | (simp; omega) | exact Below.size (by assumption) | exact Nat.le_trans (Below.size (by assumption)) (by simp)))))
  refine hK.out _ _ h9 (fun _ => ?_)
  clear hK K u1 u2
  (try simp only [Act.put, List.getElem_toArray, List.getElem_cons_succ, List.getElem_cons_zero, List.setIfInBounds_toArray, List.set_cons_zero, List.set_cons_succ])
  obtain ⟨X, hX⟩ : ∃ X, X = ((wW.setCell ⟨w.heap.size, 1, none⟩ (.slice xF F.length cF)).setCell ⟨w.heap.size, 2, none⟩ (.slice xW W.length cW)) := ⟨_, rfl⟩
  have qY : Wb X w.heap.size 37 #[.int .i64 l, .slice xF F.length cF, .slice xW W.length cW, .int .i64 m] := by rw [hX]; exact qX.out.put 2 _
  have zY : Wb X (w.heap.size + 1) 37 #[.int .i64 0, .slice none 0 0, .slice none 0 0, .int .i64 0] := by rw [hX]; exact ((Below.heap_setCell _ _ _ _ (by simp)).trans ((Below.heap_setCell _ _ _ _ (by simp)).trans zW.out))
  have oF : OwR X W2.heap.size wF.heap.size 3 1 (.slice xF F.length cF) F.length (iC F) := by rw [hX]; exact ((hOF.out.below hbW).set _ _ (Or.inl (by show w.heap.size < W2.heap.size; omega))).set _ _ (Or.inl (by show w.heap.size < W2.heap.size; omega))
  have oW : OwR X wF.heap.size wW.heap.size 3 1 (.slice xW W.length cW) W.length (iC W) := by rw [hX]; exact (hOW.out.set _ _ (Or.inl (by show w.heap.size < wF.heap.size; omega))).set _ _ (Or.inl (by show w.heap.size < wF.heap.size; omega))
  have sX : X.heap.size = wW.heap.size := by rw [hX]; simp
  rw [← hX]
  rw [← hX] at h9
  replace oF := Lib.hid oF
  replace oW := Lib.hid oW
  replace hX := Lib.hid hX
  have qa := qY.read 0; have qb := qY.read 1; have qc := qY.read 2; have qd := qY.read 3; have qe := qY.free 0; have qf := qY.free 1; have qg := qY.free 2; have qh := qY.free 3
  have ya := zY.read 0; have yb := zY.read 1; have yc := zY.read 2; have yd := zY.read 3; have ye := zY.free 0; have yf := zY.free 1; have yg := zY.free 2; have yh := zY.free 3
  clear qX qW zW qF z1 q1 hOF hOW hH hHF hHW h7 B2 hW2 hFh hWh qY
  refine wpAnyH_done (by kernel_rfl) ?_ _
  go_wp2_with fail
  refine bodyPost_ret (v := .agg #[.int .i64 l, .slice xF F.length cF, .slice xW W.length cW, .int .i64 m]) (by simp [results, Try.results99, go_sem, *]) rfl ⟨_, _, _, _, rfl, ⟨W2.heap.size, wF.heap.size, wF.heap.size, wW.heap.size, by omega, by simp; omega, by omega, by simp; omega, Or.inl (Nat.le_refl _), ?_, ?_⟩, ?_⟩
  repeat (refine OwR.set ?_ _ _ (Or.inl (by show w.heap.size + 1 < W2.heap.size; omega)))
  exact oF.out
  repeat (refine OwR.set ?_ _ _ (Or.inl (by show w.heap.size + 1 < wF.heap.size; omega)))
  exact oW.out
  exact (by repeat (first | exact Below.refl _ _ | assumption | refine Below.drew ?_ | refine below_drewN ?_ _ | refine Below.alloc' ?_ _ | (refine Below.setCell ?_ (by first | omega | (simp; done) | (simp; omega) | exact Below.size (by assumption) | exact Nat.le_trans (Below.size (by assumption)) (by simp)) _) | (refine Below.via' ?_ (by assumption)) | (refine Below.alloc ?_ (by first | omega | (simp; done) | (simp; omega) | exact Below.size (by assumption) | exact Nat.le_trans (Below.size (by assumption)) (by simp)) _) | (refine Below.via ?_ (by assumption) (by first | omega | (simp; done) | (simp; omega) | exact Below.size (by assumption) | exact Nat.le_trans (Below.size (by assumption)) (by simp)))))
end Go.Proofs.Ytpmbenedeakieaa

namespace Go.Proofs.Ytpmbenedeakieaa
open Go.RowKit
set_option maxRecDepth 100000

theorem iC_setN (L : List Int) (k : Nat) (v : Int) : (iC L).set k (.int .i64 v) = iC (L.set k v) := by unfold iC; rw [List.map_set]
theorem wb_farN {w w' : World} {g t : Nat} {cs : Array Value} {r : Option Nat} (h : Wb w g t cs) (hg : w.grownBy w' r) (hne : r ≠ some g) : Wb w' g t cs := (hg.block g h.inside (fun e => hne e.symm)).trans h
theorem kd_ne {lv x : Int} (h : x ≠ flZ lv) : (kdZ lv x == 2) = false := by
  unfold kdZ
  by_cases k : x ≤ 0 ∨ flZ lv < x
  · rw [if_pos k]; rfl
  · rw [if_neg k, if_neg h]; rfl
theorem kd_eq {lv x : Int} (h : 2 ≤ lv ∧ lv ≤ 8) (k : x = flZ lv) : (kdZ lv x == 2) = true := by rw [kdZ_all h k]; rfl
theorem retT_of {l : Int} {F W V : List Int} {m : Int} {w w' : World} {xF : Option Addr} {cF g cW : Nat} (hl : V.length = W.length) (h : OwY w' w.heap.size w'.heap.size (.slice xF F.length cF) (.slice (some ⟨g, 0, none⟩) V.length cW) F V) (hb : Below w.heap.size w w') :
    RetT l F V m w (.returned (.agg #[.int .i64 l, .slice xF F.length cF, .slice (some ⟨g, 0, none⟩) W.length cW, .int .i64 m])) w' := by
  rw [← hl]
  exact ⟨_, _, _, _, rfl, h, hb⟩
set_option maxHeartbeats 4000000 in
theorem normalTable_any (y x z : Option Addr) (c1 c d : Nat) (S : List (ByteArray × Int)) (l : Int) (F W : List Int) (m : Int) (w : World) (hs : schB S = true) (hl : W.length = S.length) (hS : SIn w y c1 S) (hmF : F.length ≤ 1048576) (hcF : F.length ≤ c) (hnF : x = none → c = 0) (hcW : W.length ≤ d) (hnW : z = none → d = 0) (hF : Rd w x (iC F)) (hW : Rd w z (iC W)) :
    Calls Try.prog 90 #[.slice y S.length c1, .agg #[.int .i64 l, .slice x F.length c, .slice z W.length d, .int .i64 m]] w (RetT l F (nwL S W) m w) := by
  have hSh := Lib.hid hS
  have hFh := Lib.hid hF
  have hWh := Lib.hid hW
  have hsh := Lib.hid hs
  have h6 := schB_len hs
  have hlh := Lib.hid hl
  have hW6 : W.length ≤ 6 := by omega
  have hW1 : 0 < W.length := by omega
  clear hF hW hS hs hl
  have q0 := TQ.new w l x F.length c z W.length d m 37
  obtain ⟨W2, hW2⟩ : ∃ W2, W2 = (w.alloc (.cells #[.int .i64 l, .slice x F.length c, .slice z W.length d, .int .i64 m] 37)).alloc (.cells #[.int .i64 0, .slice none 0 0, .slice none 0 0, .int .i64 0] 37) := ⟨_, rfl⟩
  have B2 : Below w.heap.size w W2 := by rw [hW2]; exact (by repeat (first | exact Below.refl _ _ | assumption | refine Below.drew ?_ | refine below_drewN ?_ _ | refine Below.alloc' ?_ _ | (refine Below.setCell ?_ (by first | omega | (simp; done) | (simp; omega) | exact Below.size (by assumption) | exact Nat.le_trans (Below.size (by assumption)) (by simp)) _) | (refine Below.via' ?_ (by assumption)) | (refine Below.alloc ?_ (by first | omega | (simp; done) | (simp; omega) | exact Below.size (by assumption) | exact Nat.le_trans (Below.size (by assumption)) (by simp)) _) | (refine Below.via ?_ (by assumption) (by first | omega | (simp; done) | (simp; omega) | exact Below.size (by assumption) | exact Nat.le_trans (Below.size (by assumption)) (by simp)))))
  have zz := Wb.new (w.alloc (.cells #[.int .i64 l, .slice x F.length c, .slice z W.length d, .int .i64 m] 37)) 37 #[.int .i64 0, .slice none 0 0, .slice none 0 0, .int .i64 0]
  rw [← hW2, World.size_alloc] at zz
  have hs2 : W2.heap.size = w.heap.size + 1 + 1 := by rw [hW2]; simp
  replace zz := Lib.hid zz
  replace hW2 := Lib.hid hW2
  replace q0 := Lib.hid q0
  go_enter Try.func90, Try.ntmps90
  go_wp2_with fail
  rw [← hW2.out]
  refine (copyTable_any l x z _ _ F W m _ hmF (by omega) hcF hnF hcW hnW (hFh.out.below B2) (hWh.out.below B2)).mono ?_
  rintro e w3 ⟨xF, cF, xW, cW, rfl, ⟨a0, a1, a2, a3, o1, o2, o3, o4, o5, hOF, hOW⟩, hb3⟩
  obtain ⟨g, gc, hg⟩ := own_someV hOW.1 hW1
  injection hg with hg1 hg2 hg3
  subst hg1 hg3
  have B3 := Below.via' B2 hb3
  have zz3 := Lib.hid (zz.out.kept hb3)
  have hOFh := Lib.hid hOF
  have hOWh := Lib.hid hOW
  have hsz := hb3.size
  have hn := Wb.new w3 37 #[.int .i64 l, .slice xF F.length cF, .slice (some ⟨g, 0, none⟩) W.length cW, .int .i64 m]
  replace hn := Lib.hid hn
  clear hOF hOW zz q0
  have hbA : Below w3.heap.size w3 (w3.alloc (.cells #[.int .i64 l, .slice xF F.length cF, .slice (some ⟨g, 0, none⟩) W.length cW, .int .i64 m] 37)) := (by repeat (first | exact Below.refl _ _ | assumption | refine Below.drew ?_ | refine below_drewN ?_ _ | refine Below.alloc' ?_ _ | (refine Below.setCell ?_ (by first | omega | (simp; done) | (simp; omega) | exact Below.size (by assumption) | exact Nat.le_trans (Below.size (by assumption)) (by simp)) _) | (refine Below.via' ?_ (by assumption)) | (refine Below.alloc ?_ (by first | omega | (simp; done) | (simp; omega) | exact Below.size (by assumption) | exact Nat.le_trans (Below.size (by assumption)) (by simp)) _) | (refine Below.via ?_ (by assumption) (by first | omega | (simp; done) | (simp; omega) | exact Below.size (by assumption) | exact Nat.le_trans (Below.size (by assumption)) (by simp)))))
  go_wp2
  go_loopw [12] (fun c wr => ∃ i : Nat, i ≤ S.length ∧ c = .int .i64 i ∧ OwR wr a2 a3 3 1 (.slice (some ⟨g, 0, none⟩) W.length cW) W.length (iC (kK (nwL S W) W i)) ∧ OwR wr a0 a1 3 1 (.slice xF F.length cF) F.length (iC F) ∧ Wb wr w3.heap.size 37 #[.int .i64 l, .slice xF F.length cF, .slice (some ⟨g, 0, none⟩) W.length cW, .int .i64 m] ∧ Wb wr (w.heap.size + 1) 37 #[.int .i64 0, .slice none 0 0, .slice none 0 0, .int .i64 0] ∧ Below w.heap.size w wr) (fun c _ => S.length - (intOf c).toNat)
  case atStart => exact ⟨0, by omega, by go_num, by rw [kK_zero]; exact hOWh.out.below hbA, hOFh.out.below hbA, hn.out, zz3.out.kept hbA, Below.via' B3 hbA⟩
  case round =>
    obtain ⟨i, hi, rfl, hOW, hOF, hT, hZ, hb⟩ := hrel
    by_cases hlt : i < S.length
    · obtain ⟨bl, off, nm, lv, rfl, hbl, hSi, ks0, ks1⟩ := (hSh.out.rd.below hb).var hlt
      have hlv := schB_lv hsh.out hSi
      obtain ⟨x0, hx0⟩ : ∃ x0, W[i]? = some x0 := ⟨_, List.getElem?_eq_getElem (by have := hlh.out; omega)⟩
      have hkg := kK_get (A := nwL S W) (W := W) (by rw [nwL_len hlh.out]; exact hi) hx0
      obtain ⟨u0, hu0, k0r⟩ := own_cell hOW.1 (j := i) (by have := hlh.out; omega)
      obtain rfl : u0 = .int .i64 x0 := Option.some.inj (hu0.symm.trans (iC_at hkg))
      have lgr := (own_lt hOW.1).2
      have hb' := Below.via' (Below.refl _ _) hb
      obtain ⟨wv, hwv⟩ : ∃ wv, wv = wr.alloc (.cells #[.string nm, .int .i64 lv] 94) := ⟨_, rfl⟩
      have hv := Wb.new wr 94 #[.string nm, .int .i64 lv]
      have BV : Below wr.heap.size wr wv := by rw [hwv]; exact Below.alloc' (Below.refl _ _) _
      rw [← hwv] at hv
      have v0 := hv.read 0
      have v1 := hv.read 1
      have lv0 := hv.inside
      have hTv := hT.kept BV
      have t2 := hTv.read 2
      have lt0 := hTv.inside
      have k0 := (BV.cell (p := ⟨g, i, none⟩) lgr).trans k0r
      have lg0 : g < wv.heap.size := Nat.lt_of_lt_of_le lgr BV.size
      have hlt' : (i : Int) < (S.length : Int) := by omega
      have hi0 : (0 : Int) ≤ (i : Int) := by omega
      have hiW : (i : Int) < (W.length : Int) := by have := hlh.out; omega
      replace hwv := Lib.hid hwv
      replace hOW := Lib.hid hOW
      replace hOF := Lib.hid hOF
      replace hT := Lib.hid hT
      replace hZ := Lib.hid hZ
      replace hTv := Lib.hid hTv
      clear hv hu0
      replace hkg := Lib.hid hkg
      replace hx0 := Lib.hid hx0
      replace hSi := Lib.hid hSi
      go_upto_region 5 with fail
      rw [← hwv.out]
      refine wp_region_held_drew (S := fun X => Below wv.heap.size wv X) (by kernel_rfl) (Below.drew (Below.refl _ _)) (fun hH => ?_)
      refine wpAnyH_take (i := 0) (v := ?_) rfl (by kernel_rfl) (by kernel_rfl) (by kernel_rfl) (fun _ _ _ h => h) (Or.inl ⟨by rfl, ?_⟩) (by assumption) ?_; rotate_left; · (intro wz hz; (have f0 := (hz.cell (p := ⟨wr.heap.size, 0, none⟩) lv0).trans v0; have f1 := (hz.cell (p := ⟨wr.heap.size, 1, none⟩) lv0).trans v1; have f2 := (hz.cell (p := ⟨w3.heap.size, 2, none⟩) lt0).trans t2; have f3 := (hz.cell (p := ⟨g, i, none⟩) lg0).trans k0); clear hz; go_simp; try with_reducible rfl); (try simp only [Act.put, List.getElem_toArray, List.getElem_cons_succ, List.getElem_cons_zero, List.setIfInBounds_toArray, List.set_cons_zero, List.set_cons_succ])
      refine wpAnyH_take (i := 1) (v := ?_) rfl (by kernel_rfl) (by kernel_rfl) (by kernel_rfl) (fun _ _ _ h => h) (Or.inl ⟨by rfl, ?_⟩) (by assumption) ?_; rotate_left; · (intro wz hz; (have f0 := (hz.cell (p := ⟨wr.heap.size, 0, none⟩) lv0).trans v0; have f1 := (hz.cell (p := ⟨wr.heap.size, 1, none⟩) lv0).trans v1; have f2 := (hz.cell (p := ⟨w3.heap.size, 2, none⟩) lt0).trans t2; have f3 := (hz.cell (p := ⟨g, i, none⟩) lg0).trans k0); clear hz; go_simp; try with_reducible rfl); (try simp only [Act.put, List.getElem_toArray, List.getElem_cons_succ, List.getElem_cons_zero, List.setIfInBounds_toArray, List.set_cons_zero, List.set_cons_succ])
      refine wpAnyH_take (i := 2) (v := ?_) rfl (by kernel_rfl) (by kernel_rfl) (by kernel_rfl) (fun _ _ _ h => h) (Or.inl ⟨by rfl, ?_⟩) (by assumption) ?_; rotate_left; · (intro wz hz; (have f0 := (hz.cell (p := ⟨wr.heap.size, 0, none⟩) lv0).trans v0; have f1 := (hz.cell (p := ⟨wr.heap.size, 1, none⟩) lv0).trans v1; have f2 := (hz.cell (p := ⟨w3.heap.size, 2, none⟩) lt0).trans t2; have f3 := (hz.cell (p := ⟨g, i, none⟩) lg0).trans k0); clear hz; go_simp; try with_reducible rfl); (try simp only [Act.put, List.getElem_toArray, List.getElem_cons_succ, List.getElem_cons_zero, List.setIfInBounds_toArray, List.set_cons_zero, List.set_cons_succ])
      refine wpAnyH_take (i := 3) (v := ?_) rfl (by kernel_rfl) (by kernel_rfl) (by kernel_rfl) (fun _ _ _ h => h) (Or.inl ⟨by rfl, ?_⟩) (by assumption) ?_; rotate_left; · (intro wz hz; (have f0 := (hz.cell (p := ⟨wr.heap.size, 0, none⟩) lv0).trans v0; have f1 := (hz.cell (p := ⟨wr.heap.size, 1, none⟩) lv0).trans v1; have f2 := (hz.cell (p := ⟨w3.heap.size, 2, none⟩) lt0).trans t2; have f3 := (hz.cell (p := ⟨g, i, none⟩) lg0).trans k0); clear hz; go_simp; try with_reducible rfl); (try simp only [Act.put, List.getElem_toArray, List.getElem_cons_succ, List.getElem_cons_zero, List.setIfInBounds_toArray, List.set_cons_zero, List.set_cons_succ])
      refine wpAnyH_take (i := 4) (v := ?_) rfl (by kernel_rfl) (by kernel_rfl) (by kernel_rfl) (fun _ _ _ h => h) (Or.inl ⟨by rfl, ?_⟩) (by assumption) ?_; rotate_left; · (intro wz hz; (have f0 := (hz.cell (p := ⟨wr.heap.size, 0, none⟩) lv0).trans v0; have f1 := (hz.cell (p := ⟨wr.heap.size, 1, none⟩) lv0).trans v1; have f2 := (hz.cell (p := ⟨w3.heap.size, 2, none⟩) lt0).trans t2; have f3 := (hz.cell (p := ⟨g, i, none⟩) lg0).trans k0); clear hz; go_simp; try with_reducible rfl); (try simp only [Act.put, List.getElem_toArray, List.getElem_cons_succ, List.getElem_cons_zero, List.setIfInBounds_toArray, List.set_cons_zero, List.set_cons_succ])
      refine wpAnyH_take (i := 5) (v := ?_) rfl (by kernel_rfl) (by kernel_rfl) (by kernel_rfl) (fun _ _ _ h => h) (Or.inl ⟨by rfl, ?_⟩) (by assumption) ?_; rotate_left; · (intro wz hz; (have f0 := (hz.cell (p := ⟨wr.heap.size, 0, none⟩) lv0).trans v0; have f1 := (hz.cell (p := ⟨wr.heap.size, 1, none⟩) lv0).trans v1; have f2 := (hz.cell (p := ⟨w3.heap.size, 2, none⟩) lt0).trans t2; have f3 := (hz.cell (p := ⟨g, i, none⟩) lg0).trans k0); clear hz; go_simp; try with_reducible rfl); (try simp only [Act.put, List.getElem_toArray, List.getElem_cons_succ, List.getElem_cons_zero, List.setIfInBounds_toArray, List.set_cons_zero, List.set_cons_succ])
      refine wpAnyH_ready (rs := [6]) (by kernel_rfl) (by simp) (AllReadyH.cons rfl (fun K hK => ?_) AllReadyH.nil); go_simp
      refine (kindOfSet_any _ _ _ _ hlv).mono ?_
      rintro e w5 ⟨rfl, hb5⟩
      have h5 := Below.via' hH hb5
      refine hK.out _ _ h5 (fun _ => ?_)
      clear hK K
      (try simp only [Act.put, List.getElem_toArray, List.getElem_cons_succ, List.getElem_cons_zero, List.setIfInBounds_toArray, List.set_cons_zero, List.set_cons_succ])
      refine wpAnyH_take (i := 7) (v := ?_) rfl (by kernel_rfl) (by kernel_rfl) (by kernel_rfl) (fun _ _ _ h => h) (Or.inl ⟨by rfl, ?_⟩) (by assumption) ?_; rotate_left; · (intro wz hz; (skip); clear hz; go_simp; try with_reducible rfl); (try simp only [Act.put, List.getElem_toArray, List.getElem_cons_succ, List.getElem_cons_zero, List.setIfInBounds_toArray, List.set_cons_zero, List.set_cons_succ])
      refine wpAnyH_done (by kernel_rfl) ?_ _
      have B5 := Below.via' BV h5
      have hOW5 := hOW.out.below B5
      have hOF5 := hOF.out.below B5
      have hT5 := hTv.out.kept h5
      have hZ5 := hZ.out.kept B5
      have hbw := Below.via' hb B5
      by_cases hfl : x0 = flZ lv
      · have hkd := kd_eq hlv hfl
        have hst := kK_step (A := nwL S W) (W := W) (nwL_yes hSi.out hx0.out hfl) (by have := hlh.out; omega)
        obtain ⟨u1, hu1, k1⟩ := own_cell hOW5.1 (j := i) (by have := hlh.out; omega)
        have k2 := hOW5.1.frozenAt i
        have hsr := hOW5.1.stored i (.int .i64 0)
        have t5 := hT5.read 2
        have hg5 := hOW5.2 g rfl
        have hrel2 : OwR (w5.setCell ⟨g, i, none⟩ (.int .i64 0)) a2 a3 3 1 (.slice (some ⟨g, 0, none⟩) W.length cW) W.length (iC (kK (nwL S W) W (i + 1))) := by
          rw [← hst, ← iC_setN]
          exact hOW5.turn hsr.1
        have hF2 := hOF5.keep hsr.2 (fun k hk => by
          have e : g = k := by injection hk
          omega)
        have hT2 := wb_farN hT5 hsr.2 (fun hk => by
          have e : g = w3.heap.size := by injection hk
          omega)
        have hZ2 := wb_farN hZ5 hsr.2 (fun hk => by
          have e : g = w.heap.size + 1 := by injection hk
          omega)
        have hbw2 : Below w.heap.size w (w5.setCell ⟨g, i, none⟩ (.int .i64 0)) := Below.setCell hbw (by show w.heap.size ≤ g; omega) _
        replace hrel2 := Lib.hid hrel2
        replace hF2 := Lib.hid hF2
        replace hT2 := Lib.hid hT2
        replace hZ2 := Lib.hid hZ2
        replace hsr := Lib.hid hsr
        replace hst := Lib.hid hst
        replace hfl := Lib.hid hfl
        replace hbw2 := Lib.hid hbw2
        clear hOW5 hOF5 hT5 hZ5 hu1
        go_wp2
        go_roundw
        case rel => exact ⟨i + 1, by omega, by go_num, hrel2.out, hF2.out, hT2.out, hZ2.out, hbw2.out⟩
        case measure => simp [intOf]; omega
      · have hkd := kd_ne hfl
        have hst := kK_same (nwL_no hSi.out hx0.out hfl) hx0.out
        rw [← hst] at hOW5
        replace hOW5 := Lib.hid hOW5
        replace hOF5 := Lib.hid hOF5
        replace hT5 := Lib.hid hT5
        replace hZ5 := Lib.hid hZ5
        replace hst := Lib.hid hst
        replace hfl := Lib.hid hfl
        go_wp2
        go_roundw
        case rel => exact ⟨i + 1, by omega, by go_num, hOW5.out, hOF5.out, hT5.out, hZ5.out, hbw⟩
        case measure => simp [intOf]; omega
    · have hij : i = S.length := by omega
      subst hij
      rw [kK_all (nwL_len hlh.out) hlh.out] at hOW
      have ta := hT.read 0; have tb := hT.read 1; have tc := hT.read 2; have td := hT.read 3; have te := hT.free 0; have tf := hT.free 1; have tg := hT.free 2; have th := hT.free 3
      have ya := hZ.read 0; have yb := hZ.read 1; have yc := hZ.read 2; have yd := hZ.read 3; have ye := hZ.free 0; have yf := hZ.free 1; have yg := hZ.free 2; have yh := hZ.free 3
      have yin := hZ.inside
      have tin := hT.inside
      replace hOW := Lib.hid hOW
      replace hOF := Lib.hid hOF
      have hl2 := nwL_len2 (S := S) hlh.out
      replace hl2 := Lib.hid hl2
      have hbs := hb.size
      go_wp2
      refine bodyPost_ret (v := .agg #[.int .i64 l, .slice xF F.length cF, .slice (some ⟨g, 0, none⟩) W.length cW, .int .i64 m]) (by simp [results, Try.results90, go_sem, *]) rfl ?_
      refine retT_of (W := W) hl2.out ⟨a0, a1, a2, a3, ?_, ?_, ?_, ?_, o5, ?_, ?_⟩ (by repeat (first | exact Below.refl _ _ | assumption | refine Below.drew ?_ | refine below_drewN ?_ _ | refine Below.alloc' ?_ _ | (refine Below.setCell ?_ (by first | omega | (simp; done) | (simp; omega) | exact Below.size (by assumption) | exact Nat.le_trans (Below.size (by assumption)) (by simp)) _) | (refine Below.via' ?_ (by assumption)) | (refine Below.alloc ?_ (by first | omega | (simp; done) | (simp; omega) | exact Below.size (by assumption) | exact Nat.le_trans (Below.size (by assumption)) (by simp)) _) | (refine Below.via ?_ (by assumption) (by first | omega | (simp; done) | (simp; omega) | exact Below.size (by assumption) | exact Nat.le_trans (Below.size (by assumption)) (by simp)))))
      omega
      simp; omega
      omega
      simp; omega
      repeat (refine OwR.set ?_ _ _ (Or.inl (by show w.heap.size + 1 < a0; omega)))
      exact hOF.out
      repeat (refine OwR.set ?_ _ _ (Or.inl (by show w.heap.size + 1 < a2; omega)))
      rw [hl2.out]
      exact hOW.out
end Go.Proofs.Ytpmbenedeakieaa
