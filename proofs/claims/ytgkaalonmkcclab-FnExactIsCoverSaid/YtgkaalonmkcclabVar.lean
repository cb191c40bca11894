/-
  The laws' helpers on lists of variables (a string and an integer each): the size, a copy, a comparison, marks and their test.
-/
import Derived.Test.YtgkaalonmkcclabVec
namespace Go.Proofs.Ytgkaalonmkcclab
open Go.RowKit
set_option maxRecDepth 100000

theorem ba_same (s : ByteArray) : (s == s) = true := by rw [ba_eq]; simp
theorem ba_same' (s : ByteArray) : (s != s) = false := by show (!(s == s)) = false; rw [ba_same]; rfl
theorem Try.infoVar : (Try.prog.info? 93).map (fun i => (i.zero, i.size, i.bytes)) = some (some (.agg #[.string ⟨#[]⟩, .int .i64 0]), 2, 24) := by kernel_rfl

theorem szVariable_any (nm : ByteArray) (lv left : Int) (w : World) (hl : 0 ≤ left) (h : left ≤ 1048576) (hm : nm.size ≤ 9223372036854775807) :
    Calls Try.prog 44 #[.agg #[.string nm, .int .i64 lv], .int .i64 left] w fun e w' => e = .returned (.int .i64 (szZ left nm.size)) ∧ Below w.heap.size w w' := by
  by_cases k : left < nm.size
  · rw [show szZ left nm.size = -1 from if_pos k]
    go_enter Try.func44, Try.ntmps44
    go_wp2
    go_ret
    exact ⟨rfl, (by repeat (first | exact Below.refl _ _ | assumption | refine Below.drew ?_ | refine below_drewN ?_ _ | refine Below.alloc' ?_ _ | (refine Below.setCell ?_ (by first | omega | (simp; done) | (simp; omega) | exact Below.size (by assumption) | exact Nat.le_trans (Below.size (by assumption)) (by simp)) _) | (refine Below.via' ?_ (by assumption)) | (refine Below.alloc ?_ (by first | omega | (simp; done) | (simp; omega) | exact Below.size (by assumption) | exact Nat.le_trans (Below.size (by assumption)) (by simp)) _) | (refine Below.via ?_ (by assumption) (by first | omega | (simp; done) | (simp; omega) | exact Below.size (by assumption) | exact Nat.le_trans (Below.size (by assumption)) (by simp)))))⟩
  · rw [show szZ left nm.size = left - nm.size from if_neg k]
    go_enter Try.func44, Try.ntmps44
    go_wp2
    go_ret
    exact ⟨rfl, (by repeat (first | exact Below.refl _ _ | assumption | refine Below.drew ?_ | refine below_drewN ?_ _ | refine Below.alloc' ?_ _ | (refine Below.setCell ?_ (by first | omega | (simp; done) | (simp; omega) | exact Below.size (by assumption) | exact Nat.le_trans (Below.size (by assumption)) (by simp)) _) | (refine Below.via' ?_ (by assumption)) | (refine Below.alloc ?_ (by first | omega | (simp; done) | (simp; omega) | exact Below.size (by assumption) | exact Nat.le_trans (Below.size (by assumption)) (by simp)) _) | (refine Below.via ?_ (by assumption) (by first | omega | (simp; done) | (simp; omega) | exact Below.size (by assumption) | exact Nat.le_trans (Below.size (by assumption)) (by simp)))))⟩
theorem szZ_bd (left : Int) (n : Nat) (hl : 0 ≤ left) : -1 ≤ szZ left n ∧ szZ left n ≤ left := by unfold szZ; split <;> omega

/-- What a size says. -/
def SzPost (left : Int) (S : List (ByteArray × Int)) (w : World) (e : Ending) (w' : World) : Prop :=
  ∃ r : Int, e = .returned (.int .i64 r) ∧ r ≤ left ∧ -1 ≤ r ∧ (0 ≤ r → S.length ≤ left ∧ ∀ p ∈ S, (p.1.size : Int) ≤ left) ∧ Below w.heap.size w w'
set_option maxHeartbeats 1000000 in
theorem szVariableS_any (x : Option Addr) (cap : Nat) (S : List (ByteArray × Int)) (left : Int) (w : World) (hl : 0 ≤ left) (h : left ≤ 1048576) (hm : S.length ≤ 9223372036854775807) (hn : ∀ p ∈ S, p.1.size ≤ 9223372036854775807) (hS : Rd w x (vC S)) :
    Calls Try.prog 7 #[.slice x S.length cap, .int .i64 left] w (SzPost left S w) := by
  have hnh := Lib.hid hn
  clear hn
  by_cases k : left < S.length
  · clear hS
    go_enter Try.func7, Try.ntmps7
    go_wp2
    go_ret
    exact ⟨-1, rfl, by omega, by omega, fun h => by omega, (by repeat (first | exact Below.refl _ _ | assumption | refine Below.drew ?_ | refine below_drewN ?_ _ | refine Below.alloc' ?_ _ | (refine Below.setCell ?_ (by first | omega | (simp; done) | (simp; omega) | exact Below.size (by assumption) | exact Nat.le_trans (Below.size (by assumption)) (by simp)) _) | (refine Below.via' ?_ (by assumption)) | (refine Below.alloc ?_ (by first | omega | (simp; done) | (simp; omega) | exact Below.size (by assumption) | exact Nat.le_trans (Below.size (by assumption)) (by simp)) _) | (refine Below.via ?_ (by assumption) (by first | omega | (simp; done) | (simp; omega) | exact Below.size (by assumption) | exact Nat.le_trans (Below.size (by assumption)) (by simp)))))⟩
  go_enter Try.func7, Try.ntmps7
  go_wp2
  go_loopw [1, 5] (fun q c wr => ∃ (i : Nat) (r : Int), i ≤ S.length ∧ c = .int .i64 i ∧ q = .int .i64 r ∧ 0 ≤ r ∧ r ≤ left ∧ Hid (∀ p ∈ S.take i, (p.1.size : Int) ≤ left) ∧ Below w.heap.size w wr) (fun _ c _ => S.length - (intOf c).toNat)
  case atStart => exact ⟨0, _, by omega, rfl, rfl, by omega, by omega, (fun p hp => by simp at hp), Below.refl _ _⟩
  case round =>
    obtain ⟨i, r, hi, rfl, rfl, h0, h1, hall, hb⟩ := hrel
    by_cases hlt : i < S.length
    · obtain ⟨bl, off, nm, lv, rfl, hbl, hSi, hc0, hc1⟩ := (hS.below hb).var hlt
      have hnm := hnh.out _ (List.mem_of_getElem? hSi)
      simp only at hnm
      have hSi := Lib.hid hSi
      clear hS
      have hlt' : (i : Int) < (S.length : Int) := by omega
      have hbd := szZ_bd r nm.size h0
      by_cases hneg : szZ r nm.size < 0
      · go_wp2_with (go_at_call 44; refine (szVariable_any _ _ _ _ (by omega) (by omega) (by omega)).mono ?_; rintro e w2 ⟨rfl, hb2⟩; obtain ⟨hcl2, hfr2⟩ := bcell hb2; have hz2 := hb2.size; (try simp at hz2); (try (have hly2 := Nat.lt_of_succ_le hz2)); (try (have hlx2 := Nat.lt_of_succ_lt hly2)); (try (have hlw2 := Nat.lt_of_succ_lt hlx2)); (try (have hle2 := Nat.le_of_lt hly2)); (try (have hya2 : w.heap.size < w2.heap.size := by omega)); (try (have hyb2 : w.heap.size + 1 < w2.heap.size := by omega)); (try (have hyc2 : w.heap.size + 1 + 1 < w2.heap.size := by omega)); (try (have hyd2 : wa.heap.size < w2.heap.size := by omega)))
        go_ret
        exact ⟨-1, rfl, by omega, by omega, fun h => by omega, (by repeat (first | exact Below.refl _ _ | assumption | refine Below.drew ?_ | refine below_drewN ?_ _ | refine Below.alloc' ?_ _ | (refine Below.setCell ?_ (by first | omega | (simp; done) | (simp; omega) | exact Below.size (by assumption) | exact Nat.le_trans (Below.size (by assumption)) (by simp)) _) | (refine Below.via' ?_ (by assumption)) | (refine Below.alloc ?_ (by first | omega | (simp; done) | (simp; omega) | exact Below.size (by assumption) | exact Nat.le_trans (Below.size (by assumption)) (by simp)) _) | (refine Below.via ?_ (by assumption) (by first | omega | (simp; done) | (simp; omega) | exact Below.size (by assumption) | exact Nat.le_trans (Below.size (by assumption)) (by simp)))))⟩
      · have hle : (nm.size : Int) ≤ r := by
          unfold szZ at hneg
          split at hneg <;> omega
        go_wp2_with (go_at_call 44; refine (szVariable_any _ _ _ _ (by omega) (by omega) (by omega)).mono ?_; rintro e w2 ⟨rfl, hb2⟩; obtain ⟨hcl2, hfr2⟩ := bcell hb2; have hz2 := hb2.size; (try simp at hz2); (try (have hly2 := Nat.lt_of_succ_le hz2)); (try (have hlx2 := Nat.lt_of_succ_lt hly2)); (try (have hlw2 := Nat.lt_of_succ_lt hlx2)); (try (have hle2 := Nat.le_of_lt hly2)); (try (have hya2 : w.heap.size < w2.heap.size := by omega)); (try (have hyb2 : w.heap.size + 1 < w2.heap.size := by omega)); (try (have hyc2 : w.heap.size + 1 + 1 < w2.heap.size := by omega)); (try (have hyd2 : wa.heap.size < w2.heap.size := by omega)))
        go_roundw
        case rel =>
          refine ⟨i + 1, _, by omega, by go_num, rfl, by omega, by omega, ?_, (by repeat (first | exact Below.refl _ _ | assumption | refine Below.drew ?_ | refine below_drewN ?_ _ | refine Below.alloc' ?_ _ | (refine Below.setCell ?_ (by first | omega | (simp; done) | (simp; omega) | exact Below.size (by assumption) | exact Nat.le_trans (Below.size (by assumption)) (by simp)) _) | (refine Below.via' ?_ (by assumption)) | (refine Below.alloc ?_ (by first | omega | (simp; done) | (simp; omega) | exact Below.size (by assumption) | exact Nat.le_trans (Below.size (by assumption)) (by simp)) _) | (refine Below.via ?_ (by assumption) (by first | omega | (simp; done) | (simp; omega) | exact Below.size (by assumption) | exact Nat.le_trans (Below.size (by assumption)) (by simp)))))⟩
          intro p hp
          obtain ⟨hl2, e2⟩ := List.getElem?_eq_some_iff.1 hSi.out
          rw [List.take_succ_eq_append_getElem hl2, e2] at hp
          rcases List.mem_append.1 hp with hp | hp
          · exact hall.out p hp
          · simp at hp
            subst hp
            simp only
            omega
        case measure => simp [intOf]; omega
    · have hij : i = S.length := by omega
      subst hij
      clear hS
      go_wp2
      go_ret
      refine ⟨r, rfl, by omega, by omega, fun _ => ⟨by omega, ?_⟩, hb⟩
      have := hall.out
      rwa [List.take_length] at this

theorem toVariable_any (nm : ByteArray) (lv : Int) (w : World) :
    Calls Try.prog 53 #[.agg #[.string nm, .int .i64 lv]] w fun e w' => e = .returned (.agg #[.string nm, .int .i64 lv]) ∧ Below w.heap.size w w' := by
  go_enter Try.func53, Try.ntmps53
  go_wp2
  refine bodyPost_ret (v := .agg #[.string nm, .int .i64 lv]) (by simp [results, Try.results53, go_sem]) rfl ⟨rfl, ?_⟩
  exact (by repeat (first | exact Below.refl _ _ | assumption | refine Below.drew ?_ | refine below_drewN ?_ _ | refine Below.alloc' ?_ _ | (refine Below.setCell ?_ (by first | omega | (simp; done) | (simp; omega) | exact Below.size (by assumption) | exact Nat.le_trans (Below.size (by assumption)) (by simp)) _) | (refine Below.via' ?_ (by assumption)) | (refine Below.alloc ?_ (by first | omega | (simp; done) | (simp; omega) | exact Below.size (by assumption) | exact Nat.le_trans (Below.size (by assumption)) (by simp)) _) | (refine Below.via ?_ (by assumption) (by first | omega | (simp; done) | (simp; omega) | exact Below.size (by assumption) | exact Nat.le_trans (Below.size (by assumption)) (by simp)))))

set_option maxHeartbeats 1000000 in
theorem toVariableS_any (x : Option Addr) (cap : Nat) (S : List (ByteArray × Int)) (w : World) (hm : S.length ≤ 1048576) (hS : Rd w x (vC S)) :
    Calls Try.prog 10 #[.slice x S.length cap] w fun e w' => e = .returned (.slice (some ⟨w.heap.size, 0, none⟩) S.length S.length) ∧ w'.ownsRow w.heap.size 93 2 (.slice (some ⟨w.heap.size, 0, none⟩) S.length S.length) S.length (vC S) ∧ Below w.heap.size w w' := by
  obtain ⟨i0, hi, hz0, hz1, hz2⟩ := info_parts Try.infoVar
  have hbb : i0.bytes * S.length ≤ 281474976710656 := by rw [hz2]; omega
  have hmm : S.length ≤ maxLen := by unfold maxLen; omega
  go_enter Try.func10, Try.ntmps10
  go_wp2_with (at_make; go_loud (refine wpList_make_full _ rfl _ _ 29 rfl w.heap.size 93 i0 (.agg #[.string ⟨#[]⟩, .int .i64 0]) 2 Try.underlying29 hi hz0 hz1 .i64 .i64 _ _ S.length rfl rfl rfl rfl hbb hmm (Nat.le_refl _) (fun w1 hown hgrow => ?_)))
  have hb1 : Below w.heap.size w w1 := (Below.refl _ _).grown hgrow (Nat.le_refl _) (by intro k hk; cases hk)
  clear hgrow hi hz0 hz1 hz2
  go_loopw [4] (fun c wr => ∃ (i : Nat) (xs : List Value), i ≤ S.length ∧ c = .int .i64 i ∧ wr.ownsRow w.heap.size 93 2 (.slice (some ⟨w.heap.size, 0, none⟩) S.length S.length) S.length xs ∧ Hid (∀ j, j < i * 2 → xs[j]? = (vC S)[j]?) ∧ Below w.heap.size w wr) (fun c _ => S.length - (intOf c).toNat)
  case atStart => exact ⟨0, _, by omega, rfl, hown, (fun j hj => absurd hj (by omega)), hb1⟩
  case round =>
    clear hown hb1
    obtain ⟨i, xs, hi, rfl, hown, hdone, hb⟩ := hrel
    by_cases hlt : i < S.length
    · obtain ⟨bl, off, nm, lv, rfl, hbl, hSi, hc0, hc1⟩ := (hS.below hb).var hlt
      obtain ⟨u, hu, k0⟩ := own_cell hown (j := i * 2) (by omega)
      obtain ⟨u', hu', k1⟩ := own_cell hown (j := i * 2 + 1) (by omega)
      have k2 := hown.frozenAt (i * 2)
      have k3 := hown.frozenAt (i * 2 + 1)
      have k4 := (own_lt hown).2
      have hu := Lib.hid hu
      have hu' := Lib.hid hu'
      have hSi := Lib.hid hSi
      have hlt' : (i : Int) < (S.length : Int) := by omega
      clear hS
      go_wp2_with (go_at_call 53; refine (toVariable_any _ _ _).mono ?_; rintro e w2 ⟨rfl, hb2⟩; obtain ⟨hcl2, hfr2⟩ := bcell hb2; have hz2 := hb2.size; (try simp at hz2); (try (have hly2 := Nat.lt_of_succ_le hz2)); (try (have hlx2 := Nat.lt_of_succ_lt hly2)); (try (have hlw2 := Nat.lt_of_succ_lt hlx2)); (try (have hle2 := Nat.le_of_lt hly2)); (try (have hya2 : w.heap.size < w2.heap.size := by omega)); (try (have hyb2 : w.heap.size + 1 < w2.heap.size := by omega)); (try (have hyc2 : w.heap.size + 1 + 1 < w2.heap.size := by omega)); (try (have hyd2 : wa.heap.size < w2.heap.size := by omega)))
      go_roundw
      case rel =>
        refine ⟨i + 1, _, by omega, by go_num, (((own_below hown hb2).stored (i * 2) (.string nm)).1.stored (i * 2 + 1) (.int .i64 lv)).1, ?_, (by repeat (first | exact Below.refl _ _ | assumption | refine Below.drew ?_ | refine below_drewN ?_ _ | refine Below.alloc' ?_ _ | (refine Below.setCell ?_ (by first | omega | (simp; done) | (simp; omega) | exact Below.size (by assumption) | exact Nat.le_trans (Below.size (by assumption)) (by simp)) _) | (refine Below.via' ?_ (by assumption)) | (refine Below.alloc ?_ (by first | omega | (simp; done) | (simp; omega) | exact Below.size (by assumption) | exact Nat.le_trans (Below.size (by assumption)) (by simp)) _) | (refine Below.via ?_ (by assumption) (by first | omega | (simp; done) | (simp; omega) | exact Below.size (by assumption) | exact Nat.le_trans (Below.size (by assumption)) (by simp)))))⟩
        intro j hj
        have hlen : xs.length = S.length * 2 := by rw [hown.1]
        rw [List.getElem?_set, List.getElem?_set]
        split
        · subst_vars
          rw [if_pos (by simp; omega), vC_at1 hSi.out]
        · split
          · subst_vars
            rw [if_pos (by omega), vC_at0 hSi.out]
          · exact hdone.out j (by omega)
      case measure => simp [intOf]; omega
    · have hij : i = S.length := by omega
      subst hij
      have hxs : xs = vC S := by
        have hlen : xs.length = S.length * 2 := by rw [hown.1]
        apply List.ext_getElem?
        intro j
        rcases Nat.lt_or_ge j (S.length * 2) with hj | hj
        · exact hdone.out j hj
        · rw [List.getElem?_eq_none (by omega), List.getElem?_eq_none (by rw [vC_len]; omega)]
      subst hxs
      have hown := Lib.hid hown
      clear hS hdone
      go_wp2
      go_ret
      exact ⟨rfl, hown.out, hb⟩

theorem eqVariable_any (nm : ByteArray) (lv : Int) (w : World) :
    Calls Try.prog 65 #[.agg #[.string nm, .int .i64 lv], .agg #[.string nm, .int .i64 lv]] w fun e w' => e = .returned (.bool true) ∧ Below w.heap.size w w' := by
  have h1 := ba_same nm
  have h2 := ba_same' nm
  go_enter Try.func65, Try.ntmps65
  go_wp2
  go_ret
  exact ⟨rfl, (by repeat (first | exact Below.refl _ _ | assumption | refine Below.drew ?_ | refine below_drewN ?_ _ | refine Below.alloc' ?_ _ | (refine Below.setCell ?_ (by first | omega | (simp; done) | (simp; omega) | exact Below.size (by assumption) | exact Nat.le_trans (Below.size (by assumption)) (by simp)) _) | (refine Below.via' ?_ (by assumption)) | (refine Below.alloc ?_ (by first | omega | (simp; done) | (simp; omega) | exact Below.size (by assumption) | exact Nat.le_trans (Below.size (by assumption)) (by simp)) _) | (refine Below.via ?_ (by assumption) (by first | omega | (simp; done) | (simp; omega) | exact Below.size (by assumption) | exact Nat.le_trans (Below.size (by assumption)) (by simp)))))⟩

set_option maxHeartbeats 1000000 in
theorem eqVariableS_any (x y : Option Addr) (c1 c2 : Nat) (S : List (ByteArray × Int)) (w : World) (hm : S.length ≤ 9223372036854775807) (hx : Rd w x (vC S)) (hy : Rd w y (vC S)) :
    Calls Try.prog 14 #[.slice x S.length c1, .slice y S.length c2] w fun e w' => e = .returned (.bool true) ∧ Below w.heap.size w w' := by
  go_enter Try.func14, Try.ntmps14
  go_wp2
  go_loopw [5] (fun c wr => ∃ i : Nat, i ≤ S.length ∧ c = .int .i64 i ∧ Below w.heap.size w wr) (fun c _ => S.length - (intOf c).toNat)
  case atStart => exact ⟨0, by omega, rfl, Below.refl _ _⟩
  case round =>
    obtain ⟨i, hi, rfl, hb⟩ := hrel
    by_cases hlt : i < S.length
    · obtain ⟨bl, off, nm, lv, rfl, hbl, hSi, hc0, hc1⟩ := (hx.below hb).var hlt
      obtain ⟨bl2, off2, nm2, lv2, rfl, hbl2, hSi2, hc2, hc3⟩ := (hy.below hb).var hlt
      have e := Option.some.inj (hSi2.symm.trans hSi)
      injection e with e1 e2
      subst e1 e2
      clear hx hy hSi hSi2
      have hlt' : (i : Int) < (S.length : Int) := by omega
      have hi0 : (0 : Int) ≤ (i : Int) := by omega
      go_wp2
      go_region_held3 (fun w' => Below (wr).heap.size (wr) w' ∧ (∀ b o, b < (wr).heap.size → w'.cell? ⟨b, o, none⟩ = (wr).cell? ⟨b, o, none⟩)) (first | exact keep_of (Below.refl _ _) | ((try go_split_ands); exact keep_of (by repeat (first | exact Below.refl _ _ | assumption | refine Below.drew ?_ | refine below_drewN ?_ _ | refine Below.alloc' ?_ _ | (refine Below.setCell ?_ (by first | omega | (simp; done) | (simp; omega) | exact Below.size (by assumption) | exact Nat.le_trans (Below.size (by assumption)) (by simp)) _) | (refine Below.via' ?_ (by assumption)) | (refine Below.alloc ?_ (by first | omega | (simp; done) | (simp; omega) | exact Below.size (by assumption) | exact Nat.le_trans (Below.size (by assumption)) (by simp)) _) | (refine Below.via ?_ (by assumption) (by first | omega | (simp; done) | (simp; omega) | exact Below.size (by assumption) | exact Nat.le_trans (Below.size (by assumption)) (by simp))))))) (first | (go_at_call 65; refine (eqVariable_any _ _ _).mono ?_; rintro e w2 ⟨rfl, hb2⟩)); rename_i hH; obtain ⟨hb2, hcl2⟩ := hH; have hz2 := hb2.size; (try simp at hz2); (try (have hly2 := Nat.lt_of_succ_le hz2)); (try (have hlx2 := Nat.lt_of_succ_lt hly2)); (try (have hlw2 := Nat.lt_of_succ_lt hlx2)); (try (have hle2 := Nat.le_of_lt hly2)); (try (have hya2 : w.heap.size < w2.heap.size := by omega)); (try (have hyb2 : w.heap.size + 1 < w2.heap.size := by omega)); (try (have hyc2 : w.heap.size + 1 + 1 < w2.heap.size := by omega)); (try (have hyd2 : wa.heap.size < w2.heap.size := by omega))
      go_wp2
      go_roundw
      case rel => exact ⟨i + 1, by omega, by go_num, (by repeat (first | exact Below.refl _ _ | assumption | refine Below.drew ?_ | refine below_drewN ?_ _ | refine Below.alloc' ?_ _ | (refine Below.setCell ?_ (by first | omega | (simp; done) | (simp; omega) | exact Below.size (by assumption) | exact Nat.le_trans (Below.size (by assumption)) (by simp)) _) | (refine Below.via' ?_ (by assumption)) | (refine Below.alloc ?_ (by first | omega | (simp; done) | (simp; omega) | exact Below.size (by assumption) | exact Nat.le_trans (Below.size (by assumption)) (by simp)) _) | (refine Below.via ?_ (by assumption) (by first | omega | (simp; done) | (simp; omega) | exact Below.size (by assumption) | exact Nat.le_trans (Below.size (by assumption)) (by simp)))))⟩
      case measure => simp [intOf]; omega
    · have hij : i = S.length := by omega
      subst hij
      clear hx hy
      go_wp2
      go_ret
      exact ⟨rfl, hb⟩
end Go.Proofs.Ytgkaalonmkcclab
