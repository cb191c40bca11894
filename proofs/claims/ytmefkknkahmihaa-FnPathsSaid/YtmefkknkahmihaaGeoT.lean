/-
  The walks of chapter 4: tallies: one number for each area.
-/
import Derived.Test.YtmefkknkahmihaaGeoI
import Derived.RegionTactic
import Derived.BigRegion
import Derived.StillTailTactics
import Derived.Deep.OwnRows
namespace Go.Proofs.Ytmefkknkahmihaa
open Go.RowKit
set_option maxRecDepth 100000

theorem iC_setG (L : List Int) (k : Nat) (v : Int) : (iC L).set k (.int .i64 v) = iC (L.set k v) := by unfold iC; rw [List.map_set]
theorem drew_own {w : World} {base e size n : Nat} {v : Value} {xs : List Value} (h : w.ownsRow base e size v n xs) : w.drew.ownsRow base e size v n xs := own_below h (Below.drew (Below.refl _ _))
/-- A row of zeros. -/
def zL (n : Nat) : List Int := List.replicate n 0
theorem zL_len (n : Nat) : (zL n).length = n := by unfold zL; simp
theorem made_own (W : World) (base g n : Nat) (hg : W.heap.size = g) (hb : base ≤ g) (hn : n ≤ 1048576) : (W.alloc (.cells (madeCells #[.int .i64 0] n) 3)).ownsRow base 3 1 (.slice (some ⟨g, 0, none⟩) n n) n (iC (zL n)) := by
  subst hg
  refine ⟨by rw [iC_len, zL_len, Nat.mul_one], .inr ⟨W.heap.size, n, _, rfl, hb, heap_alloc_new W _, Nat.le_refl _, by unfold maxLen; omega, (by rw [size_madeCells]; simp), ?_⟩⟩
  rw [toList_madeCells_one, Nat.mul_one, List.take_of_length_le (by simp)]
  unfold iC zL
  rw [List.map_replicate]
/-- A tally. -/
def TlP (x : Option Addr) (c : Nat) (P V : List Int) (w : World) (e : Ending) (w' : World) : Prop :=
  ∃ g, e = .returned (.agg #[.slice x P.length c, .slice (some ⟨g, 0, none⟩) P.length P.length]) ∧ w'.ownsRow w.heap.size 3 1 (.slice (some ⟨g, 0, none⟩) P.length P.length) P.length (iC V) ∧ Below w.heap.size w w'
set_option maxHeartbeats 2000000 in
theorem newTally_any (x : Option Addr) (c : Nat) (P : List Int) (w : World) (hm : P.length ≤ 1048576) :
    Calls Try.prog 30 #[.agg #[.slice x P.length c]] w (TlP x c P (zL P.length) w) := by
  have hmk := fun (W : World) => run_make_row' (P := Try.prog) 24 3 (.int .i64 0) 8 Try.underlying24 Try.infoInt rfl .i64 .i64 P.length (by omega) (by omega) W
  go_enter Try.func30, Try.ntmps30
  go_wp2
  go_region
  all_goals
    go_wp2
    refine bodyPost_ret (v := .agg #[.slice x P.length c, .slice (some ⟨w.heap.size + 1 + 1, 0, none⟩) P.length P.length]) (by simp [results, Try.results30, go_sem]) rfl ⟨_, rfl, drew_own (made_own _ _ _ _ (by simp) (by omega) hm), (by repeat (first | exact Below.refl _ _ | assumption | refine Below.drew ?_ | refine below_drewN ?_ _ | refine Below.alloc' ?_ _ | (refine Below.setCell ?_ (by first | omega | (simp; done) | (simp; omega) | exact Below.size (by assumption) | exact Nat.le_trans (Below.size (by assumption)) (by simp)) _) | (refine Below.via' ?_ (by assumption)) | (refine Below.alloc ?_ (by first | omega | (simp; done) | (simp; omega) | exact Below.size (by assumption) | exact Nat.le_trans (Below.size (by assumption)) (by simp)) _) | (refine Below.via ?_ (by assumption) (by first | omega | (simp; done) | (simp; omega) | exact Below.size (by assumption) | exact Nat.le_trans (Below.size (by assumption)) (by simp)))))⟩

set_option maxHeartbeats 2000000 in
theorem stepP_any (x : Option Addr) (c g n base i p : Nat) (a : Int) (P V : List Int) (W : World) (hp : P[i]? = some (p : Int)) (hR : Rd W x (iC P)) (hi : i < n) (hpl : p < n) (hV : V[p]? = some a) (ha : 0 ≤ a ∧ a ≤ 1000000)
    (ho : W.ownsRow base 3 1 (.slice (some ⟨g, 0, none⟩) n n) n (iC V)) :
    Calls Try.prog 32 #[.agg #[.slice x P.length c, .slice (some ⟨g, 0, none⟩) n n], .int .i64 i] W fun e w' => e = .returned (.tuple #[]) ∧ w'.ownsRow base 3 1 (.slice (some ⟨g, 0, none⟩) n n) n (iC (V.set i (a + 1))) ∧ W.grownBy w' (some g) := by
  have hiP : i < P.length := (List.getElem?_eq_some_iff.1 hp).1
  obtain ⟨b, off, v, rfl, hbl, hPi, hc0⟩ := hR.int hiP
  obtain rfl : v = p := Option.some.inj (hPi.symm.trans hp)
  obtain ⟨u, hu, k0⟩ := own_cell ho (j := p) (by omega)
  obtain rfl : u = .int .i64 a := Option.some.inj (hu.symm.trans (iC_at hV))
  obtain ⟨u2, hu2, k02⟩ := own_cell ho (j := i) (by omega)
  have k2 := ho.frozenAt i
  have k4 := (own_lt ho).2
  have hi0 : (0 : Int) ≤ (i : Int) := by omega
  have hi1 : (i : Int) < (P.length : Int) := by omega
  have hi2 : (i : Int) < (n : Int) := by omega
  have hp0 : (0 : Int) ≤ (p : Int) := by omega
  have hp2 : (p : Int) < (n : Int) := by omega
  replace hu := Lib.hid hu
  replace hu2 := Lib.hid hu2
  replace hPi := Lib.hid hPi
  replace hp := Lib.hid hp
  replace hV := Lib.hid hV
  have hoh := Lib.hid ho
  clear ho hR
  go_enter Try.func32, Try.ntmps32
  have hst := hoh.out.stored i (.int .i64 (a + 1))
  rw [iC_setG] at hst
  have hs1 := Lib.hid hst.1
  have hs2 := Lib.hid hst.2
  clear hst
  go_wp2
  go_region
  all_goals
    go_wp2
    refine bodyPost_end (v := .tuple #[]) (by simp [results, Try.results32, go_sem]) rfl ?_
    exact ⟨rfl, own_below hs1.out (by repeat (first | exact Below.refl _ _ | assumption | refine Below.drew ?_ | refine below_drewN ?_ _ | refine Below.alloc' ?_ _ | (refine Below.setCell ?_ (by first | omega | (simp; done) | (simp; omega) | exact Below.size (by assumption) | exact Nat.le_trans (Below.size (by assumption)) (by simp)) _) | (refine Below.via' ?_ (by assumption)) | (refine Below.alloc ?_ (by first | omega | (simp; done) | (simp; omega) | exact Below.size (by assumption) | exact Nat.le_trans (Below.size (by assumption)) (by simp)) _) | (refine Below.via ?_ (by assumption) (by first | omega | (simp; done) | (simp; omega) | exact Below.size (by assumption) | exact Nat.le_trans (Below.size (by assumption)) (by simp))))), hs2.out.trans (grown_of_bel (by repeat (first | exact Below.refl _ _ | assumption | refine Below.drew ?_ | refine below_drewN ?_ _ | refine Below.alloc' ?_ _ | (refine Below.setCell ?_ (by first | omega | (simp; done) | (simp; omega) | exact Below.size (by assumption) | exact Nat.le_trans (Below.size (by assumption)) (by simp)) _) | (refine Below.via' ?_ (by assumption)) | (refine Below.alloc ?_ (by first | omega | (simp; done) | (simp; omega) | exact Below.size (by assumption) | exact Nat.le_trans (Below.size (by assumption)) (by simp)) _) | (refine Below.via ?_ (by assumption) (by first | omega | (simp; done) | (simp; omega) | exact Below.size (by assumption) | exact Nat.le_trans (Below.size (by assumption)) (by simp))))) _)⟩

/-- Block b is two slices. -/
def GBt (w : World) (b : Nat) (y : Option Addr) (n c : Nat) (z : Option Addr) (m d : Nat) : Prop := w.cell? ⟨b, 0, none⟩ = some (.slice y n c) ∧ w.cell? ⟨b, 1, none⟩ = some (.slice z m d) ∧ b < w.heap.size
theorem GBt.new (w : World) (y : Option Addr) (n c : Nat) (z : Option Addr) (m d : Nat) (t : TypeId) : GBt (w.alloc (.cells #[.slice y n c, .slice z m d] t)) w.heap.size y n c z m d := by
  have h := Wb.new w t #[.slice y n c, .slice z m d]
  exact ⟨(h.read 0).trans rfl, (h.read 1).trans rfl, h.inside⟩
theorem GBt.below {w w' : World} {b : Nat} {y z : Option Addr} {n c m d : Nat} (h : GBt w b y n c z m d) (hb : Below w.heap.size w w') : GBt w' b y n c z m d :=
  ⟨(hb.cell h.2.2).trans h.1, (hb.cell h.2.2).trans h.2.1, Nat.lt_of_lt_of_le h.2.2 hb.size⟩
theorem GBt.grown {w w' : World} {b : Nat} {y z : Option Addr} {n c m d : Nat} {r : Option Nat} (h : GBt w b y n c z m d) (hg : w.grownBy w' r) (hne : some b ≠ r) : GBt w' b y n c z m d := by
  have e := hg.block b h.2.2 hne
  exact ⟨(World.cell?_of_block (a := ⟨b, 0, none⟩) e).trans h.1, (World.cell?_of_block (a := ⟨b, 1, none⟩) e).trans h.2.1, Nat.lt_of_lt_of_le h.2.2 hg.size⟩
/-- What a visit of one area does to a tally. -/
def StepP (fn : FuncId) (x : Option Addr) (c g base : Nat) (P : List Int) (F : Nat → List Int) (i j : Nat) : Prop :=
  ∀ W : World, Rd W x (iC P) → W.ownsRow base 3 1 (.slice (some ⟨g, 0, none⟩) P.length P.length) P.length (iC (F i)) →
    Calls Try.prog fn #[.agg #[.slice x P.length c, .slice (some ⟨g, 0, none⟩) P.length P.length], .int .i64 i] W fun e w' => e = .returned (.tuple #[]) ∧ w'.ownsRow base 3 1 (.slice (some ⟨g, 0, none⟩) P.length P.length) P.length (iC (F j)) ∧ W.grownBy w' (some g)
theorem tb_set {W w' : World} {b g : Nat} {y z : Option Addr} {n c m d : Nat} (h : GBt W b y n c z m d) (hg : W.grownBy w' (some g)) (hne : b ≠ g) : GBt w' b y n c z m d := h.grown hg (fun e => by injection e with e; exact hne e)
set_option maxHeartbeats 2000000 in
theorem visitDown_dp (x : Option Addr) (c g base : Nat) (P : List Int) (F : Nat → List Int) (w : World) (hm : P.length ≤ 1048576) (h1 : 1 ≤ P.length) (hx : Rd w x (iC P)) (hxb : ∀ b off, x = some ⟨b, off, none⟩ → b < base) (hst : ∀ i, 1 ≤ i → i < P.length → StepP 32 x c g base P F i (i + 1))
    (ho : w.ownsRow base 3 1 (.slice (some ⟨g, 0, none⟩) P.length P.length) P.length (iC (F 1))) :
    Calls Try.prog 31 #[.agg #[.slice x P.length c, .slice (some ⟨g, 0, none⟩) P.length P.length], .func (.func 32) #[] #[]] w fun e w' => e = .returned (.tuple #[]) ∧ w'.ownsRow base 3 1 (.slice (some ⟨g, 0, none⟩) P.length P.length) P.length (iC (F P.length)) ∧ w.grownBy w' (some g) := by
  have hgl := own_lt ho
  have hoh := Lib.hid (ho.alloc (.cells #[.slice x P.length c, .slice (some ⟨g, 0, none⟩) P.length P.length] 52))
  have hxh := Lib.hid (hx.alloc (.cells #[.slice x P.length c, .slice (some ⟨g, 0, none⟩) P.length P.length] 52))
  have hst := Lib.hid hst
  have hxb := Lib.hid hxb
  clear ho hx
  go_enter Try.func31, Try.ntmps31
  go_wp2
  go_loopw [4] (fun q wr => ∃ i : Nat, 1 ≤ i ∧ i ≤ P.length ∧ q = .int .i64 i ∧ wr.ownsRow base 3 1 (.slice (some ⟨g, 0, none⟩) P.length P.length) P.length (iC (F i)) ∧ GBt wr w.heap.size x P.length c (some ⟨g, 0, none⟩) P.length P.length ∧ Rd wr x (iC P) ∧ w.grownBy wr (some g)) (fun q _ => P.length - (intOf q).toNat)
  case atStart => exact ⟨1, by omega, by omega, by go_num, hoh.out, GBt.new _ _ _ _ _ _ _ _, hxh.out, World.grownBy_alloc w _ _⟩
  case round =>
    clear hoh hxh
    obtain ⟨i, hi1, hi, rfl, hown, htb, hx, hb⟩ := hrel
    obtain ⟨ka, kb, kc⟩ := htb
    have hownh := Lib.hid hown
    have hxh := Lib.hid hx
    have htb := Lib.hid (show GBt wr w.heap.size x P.length c (some ⟨g, 0, none⟩) P.length P.length from ⟨ka, kb, kc⟩)
    clear hown hx
    by_cases hlt : i < P.length
    · have hlt' : (i : Int) < (P.length : Int) := by omega
      go_wp2_with fail
      go_at_call 32
      refine (hst.out i hi1 hlt _ hxh.out hownh.out).mono ?_
      rintro e w2 ⟨rfl, ho2, hg2⟩
      have ho2 := Lib.hid ho2
      have hg2 := Lib.hid hg2
      clear ka kb kc
      go_wp2
      go_roundw
      case rel => exact ⟨i + 1, by omega, by omega, by go_num, ho2.out, tb_set htb.out hg2.out (by omega), hxh.out.keep hg2.out (fun b off e q => by injection q with q; have := hxb.out b off e; omega), hb.trans hg2.out⟩
      case measure => simp [intOf]; omega
    · have hij : i = P.length := by omega
      subst hij
      go_wp2
      refine bodyPost_end (v := .tuple #[]) (by simp [results, Try.results31, go_sem]) rfl ?_
      exact ⟨rfl, hownh.out, hb⟩
set_option maxHeartbeats 2000000 in
theorem visitDown_cn (x : Option Addr) (c g base : Nat) (P : List Int) (F : Nat → List Int) (w : World) (hm : P.length ≤ 1048576) (h1 : 1 ≤ P.length) (hx : Rd w x (iC P)) (hxb : ∀ b off, x = some ⟨b, off, none⟩ → b < base) (hst : ∀ i, 1 ≤ i → i < P.length → StepP 36 x c g base P F i (i + 1))
    (ho : w.ownsRow base 3 1 (.slice (some ⟨g, 0, none⟩) P.length P.length) P.length (iC (F 1))) :
    Calls Try.prog 31 #[.agg #[.slice x P.length c, .slice (some ⟨g, 0, none⟩) P.length P.length], .func (.func 36) #[] #[]] w fun e w' => e = .returned (.tuple #[]) ∧ w'.ownsRow base 3 1 (.slice (some ⟨g, 0, none⟩) P.length P.length) P.length (iC (F P.length)) ∧ w.grownBy w' (some g) := by
  have hgl := own_lt ho
  have hoh := Lib.hid (ho.alloc (.cells #[.slice x P.length c, .slice (some ⟨g, 0, none⟩) P.length P.length] 52))
  have hxh := Lib.hid (hx.alloc (.cells #[.slice x P.length c, .slice (some ⟨g, 0, none⟩) P.length P.length] 52))
  have hst := Lib.hid hst
  have hxb := Lib.hid hxb
  clear ho hx
  go_enter Try.func31, Try.ntmps31
  go_wp2
  go_loopw [4] (fun q wr => ∃ i : Nat, 1 ≤ i ∧ i ≤ P.length ∧ q = .int .i64 i ∧ wr.ownsRow base 3 1 (.slice (some ⟨g, 0, none⟩) P.length P.length) P.length (iC (F i)) ∧ GBt wr w.heap.size x P.length c (some ⟨g, 0, none⟩) P.length P.length ∧ Rd wr x (iC P) ∧ w.grownBy wr (some g)) (fun q _ => P.length - (intOf q).toNat)
  case atStart => exact ⟨1, by omega, by omega, by go_num, hoh.out, GBt.new _ _ _ _ _ _ _ _, hxh.out, World.grownBy_alloc w _ _⟩
  case round =>
    clear hoh hxh
    obtain ⟨i, hi1, hi, rfl, hown, htb, hx, hb⟩ := hrel
    obtain ⟨ka, kb, kc⟩ := htb
    have hownh := Lib.hid hown
    have hxh := Lib.hid hx
    have htb := Lib.hid (show GBt wr w.heap.size x P.length c (some ⟨g, 0, none⟩) P.length P.length from ⟨ka, kb, kc⟩)
    clear hown hx
    by_cases hlt : i < P.length
    · have hlt' : (i : Int) < (P.length : Int) := by omega
      go_wp2_with fail
      go_at_call 36
      refine (hst.out i hi1 hlt _ hxh.out hownh.out).mono ?_
      rintro e w2 ⟨rfl, ho2, hg2⟩
      have ho2 := Lib.hid ho2
      have hg2 := Lib.hid hg2
      clear ka kb kc
      go_wp2
      go_roundw
      case rel => exact ⟨i + 1, by omega, by omega, by go_num, ho2.out, tb_set htb.out hg2.out (by omega), hxh.out.keep hg2.out (fun b off e q => by injection q with q; have := hxb.out b off e; omega), hb.trans hg2.out⟩
      case measure => simp [intOf]; omega
    · have hij : i = P.length := by omega
      subst hij
      go_wp2
      refine bodyPost_end (v := .tuple #[]) (by simp [results, Try.results31, go_sem]) rfl ?_
      exact ⟨rfl, hownh.out, hb⟩
end Go.Proofs.Ytmefkknkahmihaa
