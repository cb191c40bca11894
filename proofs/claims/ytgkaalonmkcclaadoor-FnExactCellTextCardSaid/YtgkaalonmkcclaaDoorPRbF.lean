import Derived.Test.YtgkaalonmkcclaaDoorPRbD
import Derived.Test.YtgkaalonmkcclaaDoorPRbE
import Derived.Test.YtgkaalonmkcclaaDoorPRbC
namespace Go.Proofs.YtgkaalonmkcclaaDoor
open Go.RowKit
set_option maxRecDepth 100000

end Go.Proofs.YtgkaalonmkcclaaDoor

namespace Go.Proofs.YtgkaalonmkcclaaDoor
open Go.RowKit
set_option maxRecDepth 100000

theorem tbI64 {V F : List Int} (h : ∀ n ∈ V, IsI64 n) : ∀ n ∈ tbV V F, IsI64 n := by
  intro n hn
  unfold tbV at hn
  rw [List.mem_map] at hn
  obtain ⟨i, -, rfl⟩ := hn
  rw [List.getD_eq_getElem?_getD]
  rcases Nat.lt_or_ge i.toNat V.length with hl | hl
  · rw [List.getElem?_eq_getElem hl]; exact h _ (List.getElem_mem hl)
  · rw [List.getElem?_eq_none hl]; show IsI64 0; unfold IsI64; omega
/-- Places in a list. -/
def InP (n : Nat) (F : List Int) : Prop := F.length ≤ 6 ∧ ∀ (k : Nat) (i : Int), F[k]? = some i → 0 ≤ i ∧ i.toNat < n
theorem inP_of {S : List (ByteArray × Int)} {F : List Int} {n : Nat} (hs : schB S = true) (h : rsB S F = true) (hn : n = S.length) : InP n F := by
  have h6 := schB_len hs
  have hl := rsB_len h
  refine ⟨by omega, fun k i hk => ?_⟩
  have := rsB_bd h hk
  omega

set_option maxHeartbeats 2000000 in
theorem elemsV_any (x y : Option Addr) (c1 c2 : Nat) (S : List (ByteArray × Int)) (F : List Int) (w : World) (hp : InP S.length F) (hS : Rd w y (vC S)) (hF : Rd w x (iC F)) :
    Calls Tryd.prog 44 #[.slice y S.length c1, .slice x F.length c2] w fun e w' => e = .returned (.slice (some ⟨w.heap.size, 0, none⟩) F.length F.length) ∧ w'.ownsRow w.heap.size 52 2 (.slice (some ⟨w.heap.size, 0, none⟩) F.length F.length) F.length (vC (tbS S F)) ∧ Below w.heap.size w w' := by
  obtain ⟨i0, hi, hz0, hz1, hz2⟩ := info_parts Tryd.infoVar
  have h6 := hp.1
  have hph := Lib.hid hp.2
  have hSh := Lib.hid hS
  have hFh := Lib.hid hF
  clear hp hS hF
  have hbb : i0.bytes * F.length ≤ 281474976710656 := by rw [hz2]; omega
  have hmm : F.length ≤ maxLen := by unfold maxLen; omega
  go_enter Tryd.func44, Tryd.ntmps44
  go_wp2_with (at_make; go_loud (refine wpList_make_full _ rfl _ _ 35 rfl w.heap.size 52 i0 (.agg #[.string ⟨#[]⟩, .int .i64 0]) 2 Tryd.underlying35 hi hz0 hz1 .i64 .i64 _ _ F.length rfl rfl rfl rfl hbb hmm (Nat.le_refl _) (fun w1 hown hgrow => ?_)))
  have hb1 : Below w.heap.size w w1 := (Below.refl _ _).grown hgrow (Nat.le_refl _) (by intro k hk; cases hk)
  clear hgrow hi hz0 hz1 hz2
  go_loopw [13] (fun c wr => ∃ (i : Nat) (xs : List Value), i ≤ F.length ∧ c = .int .i64 i ∧ wr.ownsRow w.heap.size 52 2 (.slice (some ⟨w.heap.size, 0, none⟩) F.length F.length) F.length xs ∧ Hid (∀ j, j < i * 2 → xs[j]? = (vC (tbS S F))[j]?) ∧ Below w.heap.size w wr) (fun c _ => F.length - (intOf c).toNat)
  case atStart => exact ⟨0, _, by omega, rfl, hown, (fun j hj => absurd hj (by omega)), hb1⟩
  case round =>
    clear hown hb1
    obtain ⟨i, xs, hi, rfl, hown, hdone, hb⟩ := hrel
    by_cases hlt : i < F.length
    · obtain ⟨bl, off, v, rfl, hbl, hFv, hc0⟩ := (hFh.out.below hb).int hlt
      obtain ⟨p0, p1⟩ := hph.out i v hFv
      obtain ⟨n, rfl⟩ := Int.eq_ofNat_of_zero_le p0
      rw [Int.toNat_natCast] at p1
      obtain ⟨bl2, off2, nm, lv, rfl, hbl2, hSv, hc1, hc2⟩ := (hSh.out.below hb).var p1
      have hat0 := Lib.hid (vC_at0 (tbS_at (S := S) hFv (by rw [Int.toNat_natCast]; exact hSv)))
      have hat1 := Lib.hid (vC_at1 (tbS_at (S := S) hFv (by rw [Int.toNat_natCast]; exact hSv)))
      obtain ⟨u, hu, k0⟩ := own_cell hown (j := i * 2) (by omega)
      obtain ⟨u', hu', k1⟩ := own_cell hown (j := i * 2 + 1) (by omega)
      have k2 := hown.frozenAt (i * 2)
      have k3 := hown.frozenAt (i * 2 + 1)
      have k4 := (own_lt hown).2
      have hu := Lib.hid hu
      have hu' := Lib.hid hu'
      have hFv := Lib.hid hFv
      have hSv := Lib.hid hSv
      have hlt' : (i : Int) < (F.length : Int) := by omega
      have hlt2 : (n : Int) < (S.length : Int) := by omega
      go_wp2
      go_roundw
      case rel =>
        refine ⟨i + 1, _, by omega, by go_num, ((hown.stored (i * 2) (.string nm)).1.stored (i * 2 + 1) (.int .i64 lv)).1, ?_, (by repeat (first | exact Below.refl _ _ | assumption | refine Below.drew ?_ | refine below_drewN ?_ _ | refine Below.alloc' ?_ _ | (refine Below.setCell ?_ (by first | omega | (simp; done) | (simp; omega) | exact Below.size (by assumption) | exact Nat.le_trans (Below.size (by assumption)) (by simp)) _) | (refine Below.via' ?_ (by assumption)) | (refine Below.alloc ?_ (by first | omega | (simp; done) | (simp; omega) | exact Below.size (by assumption) | exact Nat.le_trans (Below.size (by assumption)) (by simp)) _) | (refine Below.via ?_ (by assumption) (by first | omega | (simp; done) | (simp; omega) | exact Below.size (by assumption) | exact Nat.le_trans (Below.size (by assumption)) (by simp)))))⟩
        intro j hj
        have hlen : xs.length = F.length * 2 := by rw [hown.1]
        rw [List.getElem?_set, List.getElem?_set]
        split
        · subst_vars
          rw [if_pos (by simp; omega), hat1.out]
        · split
          · subst_vars
            rw [if_pos (by omega), hat0.out]
          · exact hdone.out j (by omega)
      case measure => simp [intOf]; omega
    · have hij : i = F.length := by omega
      subst hij
      have hxs : xs = vC (tbS S F) := by
        have hlen : xs.length = F.length * 2 := by rw [hown.1]
        apply List.ext_getElem?
        intro j
        rcases Nat.lt_or_ge j (F.length * 2) with hj | hj
        · exact hdone.out j hj
        · rw [List.getElem?_eq_none (by omega), List.getElem?_eq_none (by rw [vC_len, tbS_len]; omega)]
      subst hxs
      have hown := Lib.hid hown
      clear hdone
      go_wp2
      go_ret
      exact ⟨rfl, hown.out, hb⟩

set_option maxHeartbeats 2000000 in
theorem sPart_any (x y : Option Addr) (c1 c2 : Nat) (S : List (ByteArray × Int)) (F : List Int) (w : World) (hp : InP S.length F) (hS : Rd w y (vC S)) (hF : Rd w x (iC F)) :
    Calls Tryd.prog 48 #[.slice y S.length c1, .slice x F.length c2] w fun e w' => ∃ u, e = .returned u ∧ w'.ownsRow w.heap.size 52 2 u (tbS S F).length (vC (tbS S F)) ∧ Below w.heap.size w w' := by
  obtain ⟨i0, hii, hz0, hz1, hz2⟩ := info_parts Tryd.infoVar
  have h6 := hp.1
  have hph := Lib.hid hp.2
  have hSh := Lib.hid hS
  have hFh := Lib.hid hF
  clear hp hS hF
  go_enter Tryd.func48, Tryd.ntmps48
  go_wp2
  go_loopw [5, 10] (fun u c wr => ∃ i : Nat, i ≤ F.length ∧ c = .int .i64 i ∧ wr.ownsRow w.heap.size 52 2 u (tbS S (F.take i)).length (vC (tbS S (F.take i))) ∧ Below w.heap.size w wr) (fun _ c _ => F.length - (intOf c).toNat)
  case atStart => exact ⟨0, by omega, rfl, World.ownsRow_nil _ _ _ _, Below.refl _ _⟩
  case round =>
    obtain ⟨i, hi, rfl, hown, hb⟩ := hrel
    have hownh := Lib.hid hown
    clear hown
    have hl : (tbS S (F.take i)).length ≤ 6 := by rw [tbS_len, List.length_take]; omega
    by_cases hlt : i < F.length
    · obtain ⟨bl, off, v, rfl, hbl, hFv, hc0⟩ := (hFh.out.below hb).int hlt
      obtain ⟨p0, p1⟩ := hph.out i v hFv
      obtain ⟨n, rfl⟩ := Int.eq_ofNat_of_zero_le p0
      rw [Int.toNat_natCast] at p1
      obtain ⟨bl2, off2, nm, lv, rfl, hbl2, hSv, hc1, hc2⟩ := (hSh.out.below hb).var p1
      have hsel := Lib.hid (tbS_snoc S hFv (by rw [Int.toNat_natCast]; exact hSv))
      have hFv := Lib.hid hFv
      have hSv := Lib.hid hSv
      have hlt' : (i : Int) < (F.length : Int) := by omega
      have hlt2 : (n : Int) < (S.length : Int) := by omega
      have hs0 := hb.size
      go_wp2_with (at_builtin; go_loud (refine wpList_append_rd _ rfl (.tmp 14) (.tmp 19) 35 rfl w.heap.size 52 i0 (.agg #[.string ⟨#[]⟩, .int .i64 0]) 2 24 Tryd.underlying35 hii hz0 hz1 hz2 rfl (by decide) _ (tbS S (F.take i)).length (vC (tbS S (F.take i))) rfl (hownh.out.alloc _) _ 1 1 rfl (Nat.le_refl _) (by intro h; cases h) (vC [(nm, lv)]) rfl (Rd.oneV _ _ _ _) (vC_one _) (by unfold maxLen; omega) (by omega) (by simp; omega) ?_); intro v3 w3 hown3 hgrow3 hwhere3)
      obtain ⟨hb3, hl3⟩ := append_below hb (fun k hk => (hownh.out.lt k hk).1) hgrow3 hwhere3
      have hown4 := Lib.hid (own_eq (n' := (tbS S (F.take i) ++ [(nm, lv)]).length) hown3 (by simp) (vC_app _ _).symm)
      clear hgrow3 hwhere3 hown3
      go_wp2
      go_roundw
      case rel => exact ⟨i + 1, by omega, by go_num, by rw [hsel.out]; exact hown4.out, hb3⟩
      case measure => simp [intOf]; omega
    · have hij : i = F.length := by omega
      subst hij
      have hown := Lib.hid (show wr.ownsRow w.heap.size 52 2 u5 (tbS S F).length (vC (tbS S F)) by have h0 := hownh.out; rwa [List.take_length] at h0)
      go_wp2
      go_ret
      exact ⟨_, rfl, hown.out, hb⟩
end Go.Proofs.YtgkaalonmkcclaaDoor

namespace Go.Proofs.YtgkaalonmkcclaaDoor
open Go.RowKit
set_option maxRecDepth 100000

theorem ty_bad {P : List Int} {M : List RV} {i : Nat} {r : RV} (h : M[i]? = some r) (k : (lfL P).contains r.1 = false) : tyB P M = false := by
  unfold tyB
  rw [List.all_eq_false]
  exact ⟨r, List.mem_of_getElem? h, by rw [k]; decide⟩
theorem ty_all {P : List Int} {M : List RV} (h : ∀ j, j < M.length → ∃ r, M[j]? = some r ∧ (lfL P).contains r.1 = true) : tyB P M = true := by
  unfold tyB
  rw [List.all_eq_true]
  intro r hr
  obtain ⟨j, hj, e⟩ := List.getElem_of_mem hr
  obtain ⟨r2, h1, h2⟩ := h j hj
  rw [List.getElem?_eq_getElem hj, e] at h1
  cases h1
  exact h2
theorem sel_i64 {p : Nat → Bool} {k : Nat} (hk : k ≤ 1000) : ∀ n ∈ selK p k, IsI64 n := by
  intro n hn
  obtain ⟨i, rfl, hi, -⟩ := sel_mem.1 hn
  unfold IsI64
  omega
theorem iin_sel {w : World} {x : Option Addr} {p : Nat → Bool} {k : Nat} (hk : k ≤ 1000) (h : Rd w x (iC (selK p k))) : IIn w x (selK p k) := ⟨by have := sel_len p k; omega, sel_i64 hk, h⟩
end Go.Proofs.YtgkaalonmkcclaaDoor

namespace Go.Proofs.YtgkaalonmkcclaaDoor
open Go.RowKit
set_option maxRecDepth 100000

set_option maxHeartbeats 2000000 in
theorem gcount_any (p y z g v : Option Addr) (n c k2 c2 k3 c3 c4 c5 : Nat) (l m : Int) (A : List Int) (S : List (ByteArray × Int)) (w : World) (hs : PtS S) (hA : A.length ≤ 30) (hS : Rd w v (vC S)) :
    Calls Tryd.prog 32 #[.agg #[.slice p n c, .int .i64 l, .slice y k2 c2, .slice z k3 c3, .int .i64 m, .slice g A.length c4, .slice v S.length c5]] w fun e w' => e = .returned (.int .i64 ((A.length : Int) * cnZ S)) ∧ Below w.heap.size w w' := by
  have hc := pt_cn hs
  have q0 : 0 ≤ (A.length : Int) * cnZ S ∧ (A.length : Int) * cnZ S ≤ 30 * 262144 := ⟨Int.mul_nonneg (by omega) (by omega), Int.mul_le_mul (by omega) hc.2 (by omega) (by omega)⟩
  have q1 : IntKind.i64.wrap ((A.length : Int) * cnZ S) = (A.length : Int) * cnZ S := IntWalk.i64_in _ (by omega)
  have hSh := Lib.hid hS
  have hsh := Lib.hid hs
  clear hS hs q0
  go_enter Tryd.func32, Tryd.ntmps32
  go_wp2
  go_region_held3 (fun w' => Below ((w.alloc (.cells #[.slice p n c, .int .i64 l, .slice y k2 c2, .slice z k3 c3, .int .i64 m, .slice g A.length c4, .slice v S.length c5] 60))).heap.size ((w.alloc (.cells #[.slice p n c, .int .i64 l, .slice y k2 c2, .slice z k3 c3, .int .i64 m, .slice g A.length c4, .slice v S.length c5] 60))) w' ∧ (∀ b o, b < ((w.alloc (.cells #[.slice p n c, .int .i64 l, .slice y k2 c2, .slice z k3 c3, .int .i64 m, .slice g A.length c4, .slice v S.length c5] 60))).heap.size → w'.cell? ⟨b, o, none⟩ = ((w.alloc (.cells #[.slice p n c, .int .i64 l, .slice y k2 c2, .slice z k3 c3, .int .i64 m, .slice g A.length c4, .slice v S.length c5] 60))).cell? ⟨b, o, none⟩)) (first | exact keep_of (Below.refl _ _) | ((try go_split_ands); exact keep_of (by repeat (first | exact Below.refl _ _ | assumption | refine Below.drew ?_ | refine below_drewN ?_ _ | refine Below.alloc' ?_ _ | (refine Below.setCell ?_ (by first | omega | (simp; done) | (simp; omega) | exact Below.size (by assumption) | exact Nat.le_trans (Below.size (by assumption)) (by simp)) _) | (refine Below.via' ?_ (by assumption)) | (refine Below.alloc ?_ (by first | omega | (simp; done) | (simp; omega) | exact Below.size (by assumption) | exact Nat.le_trans (Below.size (by assumption)) (by simp)) _) | (refine Below.via ?_ (by assumption) (by first | omega | (simp; done) | (simp; omega) | exact Below.size (by assumption) | exact Nat.le_trans (Below.size (by assumption)) (by simp))))))) ((go_at_call 56; refine (countComb_p _ _ S _ hsh.out (hSh.out.below (by exact (by repeat (first | exact Below.refl _ _ | assumption | refine Below.drew ?_ | refine below_drewN ?_ _ | refine Below.alloc' ?_ _ | (refine Below.setCell ?_ (by first | omega | (simp; done) | (simp; omega) | exact Below.size (by assumption) | exact Nat.le_trans (Below.size (by assumption)) (by simp)) _) | (refine Below.via' ?_ (by assumption)) | (refine Below.alloc ?_ (by first | omega | (simp; done) | (simp; omega) | exact Below.size (by assumption) | exact Nat.le_trans (Below.size (by assumption)) (by simp)) _) | (refine Below.via ?_ (by assumption) (by first | omega | (simp; done) | (simp; omega) | exact Below.size (by assumption) | exact Nat.le_trans (Below.size (by assumption)) (by simp)))))))).mono ?_; rintro e w1 ⟨rfl, hb1⟩)); rename_i hH; obtain ⟨hb1, hcl1⟩ := hH; have hz1 := hb1.size; (try simp at hz1); (try (have hly1 := Nat.lt_of_succ_le hz1)); (try (have hlx1 := Nat.lt_of_succ_lt hly1)); (try (have hlw1 := Nat.lt_of_succ_lt hlx1)); (try (have hle1 := Nat.le_of_lt hly1)); (try (have hya1 : w.heap.size < w1.heap.size := by omega)); (try (have hyb1 : w.heap.size + 1 < w1.heap.size := by omega)); (try (have hyc1 : w.heap.size + 1 + 1 < w1.heap.size := by omega)); (try (have hyd1 : wa.heap.size < w1.heap.size := by omega))
  go_wp2
  go_ret
  exact ⟨rfl, (by repeat (first | exact Below.refl _ _ | assumption | refine Below.drew ?_ | refine below_drewN ?_ _ | refine Below.alloc' ?_ _ | (refine Below.setCell ?_ (by first | omega | (simp; done) | (simp; omega) | exact Below.size (by assumption) | exact Nat.le_trans (Below.size (by assumption)) (by simp)) _) | (refine Below.via' ?_ (by assumption)) | (refine Below.alloc ?_ (by first | omega | (simp; done) | (simp; omega) | exact Below.size (by assumption) | exact Nat.le_trans (Below.size (by assumption)) (by simp)) _) | (refine Below.via ?_ (by assumption) (by first | omega | (simp; done) | (simp; omega) | exact Below.size (by assumption) | exact Nat.le_trans (Below.size (by assumption)) (by simp)))))⟩

set_option maxHeartbeats 4000000 in
theorem uCount_any (p y x z : Option Addr) (c c1 c2 c3 : Nat) (P : List Int) (S : List (ByteArray × Int)) (l m : Int) (F W : List Int) (w : World) (hg : geB P = true) (hs : schB S = true) (hr : rsB S F = true) (hP : IIn w p P) (hS : SIn w y c1 S) (hF : IIn w x F) :
    Calls Tryd.prog 29 #[.agg #[.slice p P.length c], .slice y S.length c1, .agg #[.int .i64 l, .slice x F.length c2, .slice z W.length c3, .int .i64 m]] w fun e w' => e = .returned (.int .i64 (tcZ P S l F)) ∧ Below w.heap.size w w' := by
  have hb := tc_bd (l := l) hg hs hr
  have q1 : IntKind.i64.wrap (((lvL P l).length : Int) * cnZ (tbS S F)) = ((lvL P l).length : Int) * cnZ (tbS S F) := IntWalk.i64_in _ (by unfold tcZ at hb; omega)
  have hpt := Lib.hid (tbS_ok hs hr)
  have hip := Lib.hid (inP_of hs hr rfl)
  have hPh := Lib.hid hP
  have hSh := Lib.hid hS.rd
  have hFh := Lib.hid hF
  have hgh := Lib.hid hg
  clear hP hS hF hs hg hb
  have p1 := Lib.hid (QB.new w p P.length c 33)
  have p2 := Lib.hid (TQ.new (w.alloc (.cells #[.slice p P.length c] 33)) l x F.length c2 z W.length c3 m 37)
  obtain ⟨w0, hw0⟩ : ∃ w0, w0 = (w.alloc (.cells #[.slice p P.length c] 33)).alloc (.cells #[.int .i64 l, .slice x F.length c2, .slice z W.length c3, .int .i64 m] 37) := ⟨_, rfl⟩
  have B0 : Below w.heap.size w w0 := by rw [hw0]; exact (by repeat (first | exact Below.refl _ _ | assumption | refine Below.drew ?_ | refine below_drewN ?_ _ | refine Below.alloc' ?_ _ | (refine Below.setCell ?_ (by first | omega | (simp; done) | (simp; omega) | exact Below.size (by assumption) | exact Nat.le_trans (Below.size (by assumption)) (by simp)) _) | (refine Below.via' ?_ (by assumption)) | (refine Below.alloc ?_ (by first | omega | (simp; done) | (simp; omega) | exact Below.size (by assumption) | exact Nat.le_trans (Below.size (by assumption)) (by simp)) _) | (refine Below.via ?_ (by assumption) (by first | omega | (simp; done) | (simp; omega) | exact Below.size (by assumption) | exact Nat.le_trans (Below.size (by assumption)) (by simp)))))
  have g0 : Hid (QB w0 w.heap.size p P.length c) := by
    rw [hw0]
    exact p1.out.below (show Below (w.alloc (.cells #[.slice p P.length c] 33)).heap.size (w.alloc (.cells #[.slice p P.length c] 33)) _ from (by repeat (first | exact Below.refl _ _ | assumption | refine Below.drew ?_ | refine below_drewN ?_ _ | refine Below.alloc' ?_ _ | (refine Below.setCell ?_ (by first | omega | (simp; done) | (simp; omega) | exact Below.size (by assumption) | exact Nat.le_trans (Below.size (by assumption)) (by simp)) _) | (refine Below.via' ?_ (by assumption)) | (refine Below.alloc ?_ (by first | omega | (simp; done) | (simp; omega) | exact Below.size (by assumption) | exact Nat.le_trans (Below.size (by assumption)) (by simp)) _) | (refine Below.via ?_ (by assumption) (by first | omega | (simp; done) | (simp; omega) | exact Below.size (by assumption) | exact Nat.le_trans (Below.size (by assumption)) (by simp))))))
  have t0 : Hid (TQ w0 (w.heap.size + 1) l x F.length c2 z W.length c3 m) := by
    have h0 := p2.out
    rw [World.size_alloc, ← hw0] at h0
    exact h0
  have z0 : w0.heap.size = w.heap.size + 1 + 1 := by rw [hw0]; simp
  clear p1 p2
  go_enter Tryd.func29, Tryd.ntmps29
  go_wp2
  rw [← hw0]
  replace hw0 := Lib.hid hw0
  replace z0 := Lib.hid z0
  obtain ⟨ka, kb, kc⟩ := g0.out
  obtain ⟨ta, tb, tc, td, te⟩ := t0.out
  go_region_held3 (fun w' => Below (w0).heap.size (w0) w' ∧ (∀ b o, b < (w0).heap.size → w'.cell? ⟨b, o, none⟩ = (w0).cell? ⟨b, o, none⟩)) (first | exact keep_of (Below.refl _ _) | ((try go_split_ands); exact keep_of (by repeat (first | exact Below.refl _ _ | assumption | refine Below.drew ?_ | refine below_drewN ?_ _ | refine Below.alloc' ?_ _ | (refine Below.setCell ?_ (by first | omega | (simp; done) | (simp; omega) | exact Below.size (by assumption) | exact Nat.le_trans (Below.size (by assumption)) (by simp)) _) | (refine Below.via' ?_ (by assumption)) | (refine Below.alloc ?_ (by first | omega | (simp; done) | (simp; omega) | exact Below.size (by assumption) | exact Nat.le_trans (Below.size (by assumption)) (by simp)) _) | (refine Below.via ?_ (by assumption) (by first | omega | (simp; done) | (simp; omega) | exact Below.size (by assumption) | exact Nat.le_trans (Below.size (by assumption)) (by simp))))))) (first | (go_at_call 36; refine (gLevel_any _ _ P l _ hgh.out (hPh.out.below (by exact (by repeat (first | exact Below.refl _ _ | assumption | refine Below.drew ?_ | refine below_drewN ?_ _ | refine Below.alloc' ?_ _ | (refine Below.setCell ?_ (by first | omega | (simp; done) | (simp; omega) | exact Below.size (by assumption) | exact Nat.le_trans (Below.size (by assumption)) (by simp)) _) | (refine Below.via' ?_ (by assumption)) | (refine Below.alloc ?_ (by first | omega | (simp; done) | (simp; omega) | exact Below.size (by assumption) | exact Nat.le_trans (Below.size (by assumption)) (by simp)) _) | (refine Below.via ?_ (by assumption) (by first | omega | (simp; done) | (simp; omega) | exact Below.size (by assumption) | exact Nat.le_trans (Below.size (by assumption)) (by simp)))))))).mono ?_; rintro e w1 ⟨v1, rfl, ho1, hb1⟩; obtain ⟨x1, n1, rfl, -, -⟩ := (OwR.of ho1).form; clear ho1) | (go_at_call 48; refine (sPart_any _ _ _ _ S F _ hip.out (hSh.out.below (by exact (by repeat (first | exact Below.refl _ _ | assumption | refine Below.drew ?_ | refine below_drewN ?_ _ | refine Below.alloc' ?_ _ | (refine Below.setCell ?_ (by first | omega | (simp; done) | (simp; omega) | exact Below.size (by assumption) | exact Nat.le_trans (Below.size (by assumption)) (by simp)) _) | (refine Below.via' ?_ (by assumption)) | (refine Below.alloc ?_ (by first | omega | (simp; done) | (simp; omega) | exact Below.size (by assumption) | exact Nat.le_trans (Below.size (by assumption)) (by simp)) _) | (refine Below.via ?_ (by assumption) (by first | omega | (simp; done) | (simp; omega) | exact Below.size (by assumption) | exact Nat.le_trans (Below.size (by assumption)) (by simp))))))) (hFh.out.2.2.below (by exact (by repeat (first | exact Below.refl _ _ | assumption | refine Below.drew ?_ | refine below_drewN ?_ _ | refine Below.alloc' ?_ _ | (refine Below.setCell ?_ (by first | omega | (simp; done) | (simp; omega) | exact Below.size (by assumption) | exact Nat.le_trans (Below.size (by assumption)) (by simp)) _) | (refine Below.via' ?_ (by assumption)) | (refine Below.alloc ?_ (by first | omega | (simp; done) | (simp; omega) | exact Below.size (by assumption) | exact Nat.le_trans (Below.size (by assumption)) (by simp)) _) | (refine Below.via ?_ (by assumption) (by first | omega | (simp; done) | (simp; omega) | exact Below.size (by assumption) | exact Nat.le_trans (Below.size (by assumption)) (by simp)))))))).mono ?_; rintro e w2 ⟨v2, rfl, ho2, hb2⟩; obtain ⟨x2, n2, rfl, -, -⟩ := (OwR.of ho2).form; (have hr2 := Lib.hid (Rd.of_own ho2)); clear ho2) | (go_at_call 47; refine (sCount_p _ _ (tbS S F) _ hpt.out (hr2.out.below (by exact (by repeat (first | exact Below.refl _ _ | assumption | refine Below.drew ?_ | refine below_drewN ?_ _ | refine Below.alloc' ?_ _ | (refine Below.setCell ?_ (by first | omega | (simp; done) | (simp; omega) | exact Below.size (by assumption) | exact Nat.le_trans (Below.size (by assumption)) (by simp)) _) | (refine Below.via' ?_ (by assumption)) | (refine Below.alloc ?_ (by first | omega | (simp; done) | (simp; omega) | exact Below.size (by assumption) | exact Nat.le_trans (Below.size (by assumption)) (by simp)) _) | (refine Below.via ?_ (by assumption) (by first | omega | (simp; done) | (simp; omega) | exact Below.size (by assumption) | exact Nat.le_trans (Below.size (by assumption)) (by simp)))))))).mono ?_; rintro e w3 ⟨rfl, hb3⟩)); rename_i hH; obtain ⟨hb3, hcl3⟩ := hH; have hz3 := hb3.size; (try simp at hz3); (try (have hly3 := Nat.lt_of_succ_le hz3)); (try (have hlx3 := Nat.lt_of_succ_lt hly3)); (try (have hlw3 := Nat.lt_of_succ_lt hlx3)); (try (have hle3 := Nat.le_of_lt hly3)); (try (have hya3 : w.heap.size < w3.heap.size := by omega)); (try (have hyb3 : w.heap.size + 1 < w3.heap.size := by omega)); (try (have hyc3 : w.heap.size + 1 + 1 < w3.heap.size := by omega)); (try (have hyd3 : wa.heap.size < w3.heap.size := by omega))
  go_wp2
  go_ret
  exact ⟨rfl, Below.via' B0 (by assumption)⟩
end Go.Proofs.YtgkaalonmkcclaaDoor

namespace Go.Proofs.YtgkaalonmkcclaaDoor
open Go.RowKit
set_option maxRecDepth 100000

set_option maxHeartbeats 4000000 in
theorem uGood_any (p y x z : Option Addr) (c c1 c2 c3 : Nat) (P : List Int) (S : List (ByteArray × Int)) (l m : Int) (F W : List Int) (w : World) (hP : IIn w p P) (hS : SIn w y c1 S) (hT : TIn w x z F W) :
    Calls Tryd.prog 20 #[.agg #[.slice p P.length c], .slice y S.length c1, .agg #[.int .i64 l, .slice x F.length c2, .slice z W.length c3, .int .i64 m]] w fun e w' => e = .returned (.bool (tgB P S l F W m)) ∧ Below w.heap.size w w' := by
  have hm := hS.1
  have hPh := Lib.hid hP
  have hSh := Lib.hid hS
  have hFh := Lib.hid hT.1
  have hWh := Lib.hid hT.2
  clear hP hS hT
  have p1 := Lib.hid (QB.new w p P.length c 33)
  have p2 := Lib.hid (TQ.new (w.alloc (.cells #[.slice p P.length c] 33)) l x F.length c2 z W.length c3 m 37)
  obtain ⟨w0, hw0⟩ : ∃ w0, w0 = (w.alloc (.cells #[.slice p P.length c] 33)).alloc (.cells #[.int .i64 l, .slice x F.length c2, .slice z W.length c3, .int .i64 m] 37) := ⟨_, rfl⟩
  have B0 : Below w.heap.size w w0 := by rw [hw0]; exact (by repeat (first | exact Below.refl _ _ | assumption | refine Below.drew ?_ | refine below_drewN ?_ _ | refine Below.alloc' ?_ _ | (refine Below.setCell ?_ (by first | omega | (simp; done) | (simp; omega) | exact Below.size (by assumption) | exact Nat.le_trans (Below.size (by assumption)) (by simp)) _) | (refine Below.via' ?_ (by assumption)) | (refine Below.alloc ?_ (by first | omega | (simp; done) | (simp; omega) | exact Below.size (by assumption) | exact Nat.le_trans (Below.size (by assumption)) (by simp)) _) | (refine Below.via ?_ (by assumption) (by first | omega | (simp; done) | (simp; omega) | exact Below.size (by assumption) | exact Nat.le_trans (Below.size (by assumption)) (by simp)))))
  have g0 : Hid (QB w0 w.heap.size p P.length c) := by
    rw [hw0]
    exact p1.out.below (show Below (w.alloc (.cells #[.slice p P.length c] 33)).heap.size (w.alloc (.cells #[.slice p P.length c] 33)) _ from (by repeat (first | exact Below.refl _ _ | assumption | refine Below.drew ?_ | refine below_drewN ?_ _ | refine Below.alloc' ?_ _ | (refine Below.setCell ?_ (by first | omega | (simp; done) | (simp; omega) | exact Below.size (by assumption) | exact Nat.le_trans (Below.size (by assumption)) (by simp)) _) | (refine Below.via' ?_ (by assumption)) | (refine Below.alloc ?_ (by first | omega | (simp; done) | (simp; omega) | exact Below.size (by assumption) | exact Nat.le_trans (Below.size (by assumption)) (by simp)) _) | (refine Below.via ?_ (by assumption) (by first | omega | (simp; done) | (simp; omega) | exact Below.size (by assumption) | exact Nat.le_trans (Below.size (by assumption)) (by simp))))))
  have t0 : Hid (TQ w0 (w.heap.size + 1) l x F.length c2 z W.length c3 m) := by
    have h0 := p2.out
    rw [World.size_alloc, ← hw0] at h0
    exact h0
  have z0 : w0.heap.size = w.heap.size + 1 + 1 := by rw [hw0]; simp
  clear p1 p2
  go_enter Tryd.func20, Tryd.ntmps20
  go_wp2_with fail
  rw [← hw0]
  replace hw0 := Lib.hid hw0
  replace z0 := Lib.hid z0
  refine (gGood_any _ _ P _ (hPh.out.below B0)).mono ?_
  rintro e w1 ⟨rfl, hb1⟩
  have B1 : Below w.heap.size w w1 := Below.via' B0 hb1
  have g1 := Lib.hid (g0.out.below hb1)
  have t1 := Lib.hid (t0.out.below hb1)
  obtain ⟨ka1, kb1, kc1⟩ := g1.out
  obtain ⟨ta1, tb1, tc1, td1, te1⟩ := t1.out
  try clear ka0 kb0 kc0 ta0 tb0 tc0 td0 te0
  clear hb1
  cases hg : geB P
  · skip
    go_wp2
    go_ret
    exact ⟨ret_bool (tg_no (fun h => by rw [h.g] at hg; cases hg)).symm, B1⟩
  have hgh := Lib.hid hg
  clear hg
  go_wp2_with fail
  refine (sGood_x _ _ _ _ (hSh.out.below B1)).mono ?_
  rintro e w2 ⟨rfl, hb2⟩
  have B2 : Below w.heap.size w w2 := Below.via' B1 hb2
  have g2 := Lib.hid (g1.out.below hb2)
  have t2 := Lib.hid (t1.out.below hb2)
  obtain ⟨ka2, kb2, kc2⟩ := g2.out
  obtain ⟨ta2, tb2, tc2, td2, te2⟩ := t2.out
  try clear ka1 kb1 kc1 ta1 tb1 tc1 td1 te1
  clear hb2
  cases hs : schB S
  · skip
    go_wp2
    go_ret
    exact ⟨ret_bool (tg_no (fun h => by rw [h.s] at hs; cases hs)).symm, B2⟩
  have hsh := Lib.hid hs
  have h6 := (schB_len hs).2
  clear hs
  go_wp2_with fail
  refine (gLevel_any _ _ P l _ hgh.out (hPh.out.below B2)).mono ?_
  rintro e w3 ⟨v3, rfl, ho3, hb3⟩
  obtain ⟨x3, n3, rfl, -, -⟩ := (OwR.of ho3).form
  have B3 : Below w.heap.size w w3 := Below.via' B2 hb3
  have g3 := Lib.hid (g2.out.below hb3)
  have t3 := Lib.hid (t2.out.below hb3)
  obtain ⟨ka3, kb3, kc3⟩ := g3.out
  obtain ⟨ta3, tb3, tc3, td3, te3⟩ := t3.out
  clear ka2 kb2 kc2 ta2 tb2 tc2 td2 te2 hb3 ho3
  by_cases hv0 : (lvL P l).length = 0
  · have hv1 : (((lvL P l).length : Int) == 0) = true := by rw [beq_iff_eq]; omega
    replace hv0 := Lib.hid hv0
    go_wp2
    go_ret
    exact ⟨ret_bool (tg_no (fun h => by have := h.v; have := hv0.out; omega)).symm, B3⟩
  have hv1 : (((lvL P l).length : Int) == 0) = false := by rw [beq_eq_false_iff_ne]; omega
  replace hv0 := Lib.hid hv0
  go_wp2_with fail
  refine (l1Rising_any _ _ S F _ hm (hFh.out.below B3)).mono ?_
  rintro e w4 ⟨rfl, hb4⟩
  have B4 : Below w.heap.size w w4 := Below.via' B3 hb4
  have g4 := Lib.hid (g3.out.below hb4)
  have t4 := Lib.hid (t3.out.below hb4)
  obtain ⟨ka4, kb4, kc4⟩ := g4.out
  obtain ⟨ta4, tb4, tc4, td4, te4⟩ := t4.out
  try clear ka3 kb3 kc3 ta3 tb3 tc3 td3 te3
  clear hb4
  clear hv1
  cases hr : rsB S F
  · skip
    go_wp2
    go_ret
    exact ⟨ret_bool (tg_no (fun h => by rw [h.r] at hr; cases hr)).symm, B4⟩
  have hrh := Lib.hid hr
  clear hr
  go_wp2_with fail
  refine (uWhere_any _ _ _ _ S W _ hsh.out hm (hSh.out.rd.below B4) (hWh.out.below B4)).mono ?_
  rintro e w5 ⟨rfl, hb5⟩
  have B5 : Below w.heap.size w w5 := Below.via' B4 hb5
  have g5 := Lib.hid (g4.out.below hb5)
  have t5 := Lib.hid (t4.out.below hb5)
  obtain ⟨ka5, kb5, kc5⟩ := g5.out
  obtain ⟨ta5, tb5, tc5, td5, te5⟩ := t5.out
  try clear ka4 kb4 kc4 ta4 tb4 tc4 td4 te4
  clear hb5
  cases hw : twB S W
  · skip
    go_wp2
    go_ret
    exact ⟨ret_bool (tg_no (fun h => by rw [h.w] at hw; cases hw)).symm, B5⟩
  have hwh := Lib.hid hw
  clear hw
  have q1 : IntKind.i64.wrap ((S.length : Int) - 1) = (S.length : Int) - 1 := IntWalk.i64_in _ (by omega)
  cases hin : inB m (-1) ((S.length : Int) - 1)
  · go_wp2_with (go_at_call 28; refine (l1In_any _ _ _ _).mono ?_; rintro e w6 ⟨rfl, rfl⟩)
    go_ret
    exact ⟨ret_bool (tg_no (fun h => by have := (inB_no _ _ _).1 hin; have := h.m0; have := h.m1; omega)).symm, B5⟩
  have hinh := Lib.hid ((inB_iff _ _ _).1 hin)
  go_wp2_with fail
  refine (l1In_any _ _ _ _).mono ?_
  rintro e w6 ⟨rfl, rfl⟩
  rw [hin]
  replace hin := Lib.hid hin
  go_wp2_with fail
  refine (uCount_any _ _ _ _ _ _ _ _ P S l m F W _ hgh.out hsh.out hrh.out (hPh.out.below B5) (hSh.out.below B5) (hFh.out.below B5)).mono ?_
  rintro e w7 ⟨rfl, hb7⟩
  have hv := Lib.hid (show decide (tcZ P S l F ≤ 600) = tgB P S l F W m by
    by_cases hc : tcZ P S l F ≤ 600
    · rw [decide_eq_true hc, tg_iff.2 ⟨hgh.out, hsh.out, hrh.out, hwh.out, by have := hinh.out; omega, by have := hinh.out; omega, by have := hv0.out; omega, hc⟩]
    · rw [decide_eq_false hc, tg_no (fun h => hc h.c)])
  go_wp2
  go_ret
  exact ⟨ret_bool hv.out, Below.via' B5 hb7⟩
end Go.Proofs.YtgkaalonmkcclaaDoor
