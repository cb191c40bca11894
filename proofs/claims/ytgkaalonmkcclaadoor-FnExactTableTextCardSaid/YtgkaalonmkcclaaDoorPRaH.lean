import Derived.Test.YtgkaalonmkcclaaDoorPRaC
import Derived.Test.YtgkaalonmkcclaaDoorPRaG
import Derived.Test.YtgkaalonmkcclaaDoorPRaF
namespace Go.Proofs.YtgkaalonmkcclaaDoor
open Go.RowKit
set_option maxRecDepth 100000

theorem paS_pos {S : List (ByteArray × Int)} {E : List Int} {i : Nat} {nm : ByteArray} {lv x : Int} (h1 : S[i]? = some (nm, lv)) (h2 : E[i]? = some x) : 1 ≤ (paS S E i).size := by
  rw [paS_at h1 h2]
  unfold paT
  rw [ByteArray.size_append, ByteArray.size_append, show (⟨#[61]⟩ : ByteArray).size = 1 from rfl]
  omega
theorem iv_get {S : List (ByteArray × Int)} {E : List Int} (hs : schB S = true) (he : edB S E = true) {k : Nat} (hk : k < (ivL S E).length) : ∃ (i : Nat) (nm : ByteArray) (lv x : Int), (ivL S E)[k]? = some (i : Int) ∧ i < S.length ∧ S[i]? = some (nm, lv) ∧ E[i]? = some x ∧ 1 ≤ x ∧ x ≤ 255 := by
  have h1 : (ivL S E)[k]? = some ((ivL S E)[k]'hk) := List.getElem?_eq_getElem hk
  obtain ⟨i, e, hi, _⟩ := pkUp_mem (List.mem_of_getElem? h1)
  obtain ⟨nm, lv, x, a, b, c, d, e2, f, g⟩ := ed_at hs he hi
  exact ⟨i, nm, lv, x, by rw [h1, e], hi, a, b, c, g⟩
theorem tK_pos {S : List (ByteArray × Int)} {E : List Int} (hs : schB S = true) (he : edB S E = true) {k : Nat} (h0 : 0 < k) (hk : k ≤ (ivL S E).length) : 1 ≤ (tK S E k).size := by
  obtain ⟨j, rfl⟩ : ∃ j, k = j + 1 := ⟨k - 1, by omega⟩
  obtain ⟨i, nm, lv, x, a, b, c, d, _⟩ := iv_get hs he (k := j) (by omega)
  have hp := paS_pos c d
  rcases Nat.eq_zero_or_pos j with rfl | hj
  · rw [tK_first a]; exact hp
  · rw [tK_next hj a, ByteArray.size_append]; omega
theorem str_ne {t : ByteArray} (h : 1 ≤ t.size) : (t.toList == (⟨#[]⟩ : ByteArray).toList) = false ∧ (t == (⟨#[]⟩ : ByteArray)) = false ∧ t ≠ ⟨#[]⟩ ∧ t.toList.isEmpty = false := by
  have hne : t ≠ ⟨#[]⟩ := by intro e; rw [e] at h; exact absurd h (by decide)
  have hd : t.data.toList ≠ (⟨#[]⟩ : ByteArray).data.toList := by
    intro e
    exact hne (ByteArray.ext (Array.ext' e))
  refine ⟨by rw [str_eq]; exact decide_eq_false hd, by rw [ba_eq]; exact decide_eq_false hd, hne, by rw [List.isEmpty_eq_false_iff, ByteArray.toList_eq]; exact hd⟩
end Go.Proofs.YtgkaalonmkcclaaDoor

namespace Go.Proofs.YtgkaalonmkcclaaDoor
open Go.RowKit
set_option maxRecDepth 100000

/-- The names of the first k places. -/
def nsK (S : List (ByteArray × Int)) (F : List Int) (k : Nat) : ByteArray := jnS 44 ((nsL S F).take k)
section
variable {S : List (ByteArray × Int)} {F : List Int} {k : Nat} {nm : ByteArray}
theorem nsK_zero : nsK S F 0 = ⟨#[]⟩ := rfl
theorem nsK_first (h : (nsL S F)[0]? = some nm) : nsK S F 1 = nm := by
  unfold nsK
  rw [take_snoc h, List.take_zero, List.nil_append, jnS_one]
theorem nsK_next (hk : 0 < k) (h : (nsL S F)[k]? = some nm) : nsK S F (k + 1) = nsK S F k ++ ⟨#[44]⟩ ++ nm := by
  have hl := (List.getElem?_eq_some_iff.1 h).1
  unfold nsK
  rw [take_snoc h, jnS_snoc]
  intro e
  have := congrArg List.length e
  rw [List.length_take, List.length_nil] at this
  omega
theorem nsL_len : (nsL S F).length = F.length := by unfold nsL; rw [List.length_map, tbS_len]
theorem nsK_all : nsK S F F.length = jnS 44 (nsL S F) := by unfold nsK; rw [List.take_of_length_le (by rw [nsL_len]; exact Nat.le_refl _)]
theorem nsK_size (hs : schB S = true) (hr : rsB S F = true) (k : Nat) : (nsK S F k).size ≤ 60 := by
  have h6 := ptS_len (tbS_ok hs hr)
  have hl : ((nsL S F).take k).length ≤ 6 := by rw [List.length_take, nsL_len]; have := tbS_len S F; omega
  have := jnS_bound (b := 44) (c := 9) (L := (nsL S F).take k) (fun t ht => by
    obtain ⟨p, hp, rfl⟩ := List.mem_map.1 (List.mem_of_mem_take ht)
    obtain ⟨j, hj, hj2⟩ := List.getElem_of_mem hp
    obtain ⟨i, hi, hSi⟩ := tbS_get hr (k := j) (p := p) (by rw [List.getElem?_eq_getElem hj, hj2])
    have := nm_size hs (List.mem_of_getElem? hSi)
    omega) hl
  unfold nsK
  omega
end
set_option maxHeartbeats 2000000 in
theorem nNames_any (y x : Option Addr) (c1 c2 : Nat) (S : List (ByteArray × Int)) (F : List Int) (w : World) (hs : schB S = true) (hr : rsB S F = true) (hS : SIn w y c1 S) (hF : IIn w x F) :
    Calls Tryd.prog 40 #[.slice y S.length c1, .slice x F.length c2] w fun e w' => e = .returned (.string (jnS 44 (nsL S F))) ∧ Below w.heap.size w w' := by
  have hSh := Lib.hid hS
  have hFh := Lib.hid hF
  have hsh := Lib.hid hs
  have hrh := Lib.hid hr
  have h6 := ptS_len (tbS_ok hs hr)
  rw [tbS_len] at h6
  clear hS hF hs hr
  go_enter Tryd.func40, Tryd.ntmps40
  go_wp2
  go_loopw [5, 10] (fun q c wr => ∃ k : Nat, k ≤ F.length ∧ c = .int .i64 k ∧ q = .string (nsK S F k) ∧ Below w.heap.size w wr) (fun _ c _ => F.length - (intOf c).toNat)
  case atStart => exact ⟨0, by omega, by go_num, by rw [nsK_zero], Below.refl _ _⟩
  case round =>
    obtain ⟨k, hk, rfl, rfl, hb⟩ := hrel
    by_cases hlt : k < F.length
    · obtain ⟨b1, o1, i0, rfl, hb1, hFk, hc0⟩ := (hFh.out.below hb).2.2.int hlt
      have hrb := rsB_bd hrh.out hFk
      obtain ⟨i, rfl⟩ := Int.eq_ofNat_of_zero_le hrb.1
      have hiS : i < S.length := by omega
      obtain ⟨b2, o2, nm, lv, rfl, hb2, hSi, hc1, hc2⟩ := (hSh.out.rd.below hb).var (i := i) hiS
      have hnk : (nsL S F)[k]? = some nm := by
        unfold nsL
        rw [List.getElem?_map, tbS_at hFk (by rw [Int.toNat_natCast]; exact hSi)]
        rfl
      have hns := name_size hsh.out hSi
      have hsz := nsK_size hsh.out hrh.out k
      have hk' : (k : Int) < (F.length : Int) := by omega
      have hk0 : (0 : Int) ≤ (k : Int) := by omega
      have hi' : (i : Int) < (S.length : Int) := by omega
      have hi0 : (0 : Int) ≤ (i : Int) := by omega
      have k1 : (⟨#[44]⟩ : ByteArray).size = 1 := rfl
      replace hFk := Lib.hid hFk
      replace hSi := Lib.hid hSi
      rcases Nat.eq_zero_or_pos k with h0 | h0
      · have hnx : Hid ((⟨#[]⟩ : ByteArray) ++ nm = nsK S F (k + 1)) := by
          unfold Hid
          subst h0
          rw [nsK_first hnk]
          exact ByteArray.empty_append
        have hz : nsK S F k = ⟨#[]⟩ := by rw [h0, nsK_zero]
        have hgt : ¬ ((0 : Int) < (k : Int)) := by omega
        have g1 : ¬ 9223372036854775807 < (⟨#[]⟩ : ByteArray).size + nm.size := by rw [show (⟨#[]⟩ : ByteArray).size = 0 from rfl]; omega
        have g2 : ¬ 9223372036854775807 < 0 + nm.size := by omega
        have g3 : ¬ 9223372036854775807 < nm.size := by omega
        rw [hz]
        replace hz := Lib.hid hz
        replace hnk := Lib.hid hnk
        replace h0 := Lib.hid h0
        clear k1
        go_wp2
        go_roundw
        case rel => exact ⟨k + 1, by omega, by go_num, by rw [← hnx.out], hb⟩
        case measure => simp [intOf]; omega
      · have hnx : Hid (nsK S F k ++ ⟨#[44]⟩ ++ nm = nsK S F (k + 1)) := (nsK_next h0 hnk).symm
        have hgt : (0 : Int) < (k : Int) := by omega
        have g1 : ¬ 9223372036854775807 < (nsK S F k).size + (⟨#[44]⟩ : ByteArray).size := by rw [k1]; omega
        have g2 : ¬ 9223372036854775807 < (nsK S F k ++ ⟨#[44]⟩).size + nm.size := by rw [ByteArray.size_append, k1]; omega
        have g3 : ¬ 9223372036854775807 < (nsK S F k).size + 1 := by omega
        have g4 : ¬ 9223372036854775807 < (nsK S F k).size + 1 + nm.size := by omega
        replace hnk := Lib.hid hnk
        clear k1
        go_wp2
        go_roundw
        case rel => exact ⟨k + 1, by omega, by go_num, by rw [← hnx.out], hb⟩
        case measure => simp [intOf]; omega
    · have hij : k = F.length := by omega
      subst hij
      have hv := Lib.hid (nsK_all (S := S) (F := F))
      go_wp2
      go_ret
      exact ⟨by first | rfl | (rw [hv.out]; rfl), hb⟩
end Go.Proofs.YtgkaalonmkcclaaDoor

namespace Go.Proofs.YtgkaalonmkcclaaDoor
open Go.RowKit
set_option maxRecDepth 100000

/-- The words up to the i-th variable's condition. -/
def owL (S : List (ByteArray × Int)) (l : Int) (F W : List Int) (m : Int) (i : Nat) : List ByteArray := (if (cwU S W i).length = 0 then tw2 S l F m else tw2 S l F m ++ [wWhere]) ++ cwU S W i
def oK (S : List (ByteArray × Int)) (l : Int) (F W : List Int) (m : Int) (i : Nat) : ByteArray := jnS 32 (owL S l F W m i)
section
variable {P : List Int} {S : List (ByteArray × Int)} {l : Int} {F W : List Int} {m : Int} {i : Nat}
theorem owL_no (h : (cwU S W i).length = 0) : owL S l F W m i = tw2 S l F m := by
  unfold owL
  rw [if_pos h, List.length_eq_zero_iff.1 h, List.append_nil]
theorem owL_yes (h : (cwU S W i).length ≠ 0) : owL S l F W m i = tw2 S l F m ++ [wWhere] ++ cwU S W i := by unfold owL; rw [if_neg h]
theorem oK_zero : oK S l F W m 0 = jnS 32 (tw2 S l F m) := by unfold oK; rw [owL_no (by simp [cwU])]
theorem oK_all : oK S l F W m S.length = ttT S l F W m := by
  unfold oK ttT tw3 owL
  rfl
theorem tw2_ne : tw2 S l F m ≠ [] := by
  intro e
  have := tw2_len (S := S) (l := l) (F := F) (m := m)
  rw [e] at this
  simp at this
theorem oK_same (h : cwU S W (i + 1) = cwU S W i) : oK S l F W m (i + 1) = oK S l F W m i := by unfold oK owL; rw [h]
theorem oK_first (h0 : (cwU S W i).length = 0) {t : ByteArray} (h : cwU S W (i + 1) = cwU S W i ++ [t]) : oK S l F W m (i + 1) = oK S l F W m i ++ ⟨#[32]⟩ ++ wWhere ++ ⟨#[32]⟩ ++ t := by
  unfold oK
  rw [owL_no h0, owL_yes (by rw [h]; simp), h, List.length_eq_zero_iff.1 h0, List.nil_append, jnS_snoc (by simp), jnS_snoc tw2_ne]
theorem oK_next (h0 : (cwU S W i).length ≠ 0) {t : ByteArray} (h : cwU S W (i + 1) = cwU S W i ++ [t]) : oK S l F W m (i + 1) = oK S l F W m i ++ ⟨#[32]⟩ ++ t := by
  unfold oK
  rw [owL_yes h0, owL_yes (by rw [h]; simp), h, ← List.append_assoc, jnS_snoc (by intro e; have := congrArg List.length e; simp at this)]
theorem tw2_all (h : TgP P S l F W m) : ∀ t ∈ tw2 S l F m, t.size + 1 ≤ 70 := by
  have hlv := tg_lv h
  have hns : (jnS 44 (nsL S F)).size ≤ 60 := by have := nsK_size h.s h.r F.length; rwa [nsK_all] at this
  have hnum : (numZ l).size ≤ 2 := numZ_2 hlv.1 (by omega)
  have hnm := naA_size h.s m.toNat
  have h0 : ∀ t ∈ tw0 S m, t.size + 1 ≤ 70 := by
    unfold tw0
    split
    · intro t ht; obtain rfl := List.mem_singleton.1 ht; decide
    · intro t ht
      rcases List.mem_cons.1 ht with rfl | ht
      · decide
      · obtain rfl := List.mem_singleton.1 ht; omega
  have h1 : ∀ t ∈ tw1 S l m, t.size + 1 ≤ 70 := by
    unfold tw1
    intro t ht
    rcases List.mem_append.1 ht with ht | ht
    · exact h0 t ht
    · rcases List.mem_cons.1 ht with rfl | ht
      · decide
      · obtain rfl := List.mem_singleton.1 ht; omega
  unfold tw2
  split
  · exact h1
  · intro t ht
    rcases List.mem_append.1 ht with ht | ht
    · exact h1 t ht
    · rcases List.mem_cons.1 ht with rfl | ht
      · decide
      · obtain rfl := List.mem_singleton.1 ht; omega
theorem oK_size (h : TgP P S l F W m) (hi : i ≤ S.length) : (oK S l F W m i).size ≤ 910 := by
  have h6 := (schB_len h.s).2
  have hn2 := tw2_len (S := S) (l := l) (F := F) (m := m)
  have hnc := cwU_len S W i
  have hall : ∀ t ∈ owL S l F W m i, t.size + 1 ≤ 70 := by
    have hc : ∀ t ∈ cwU S W i, t.size + 1 ≤ 70 := fun t ht => by have := cwU_size h.s i t ht; omega
    unfold owL
    intro t ht
    rcases List.mem_append.1 ht with ht | ht
    · revert ht
      split
      · exact tw2_all h t
      · intro ht
        rcases List.mem_append.1 ht with ht | ht
        · exact tw2_all h t ht
        · obtain rfl := List.mem_singleton.1 ht; decide
    · exact hc t ht
  have hlen : (owL S l F W m i).length ≤ 13 := by
    unfold owL
    rw [List.length_append]
    split
    · omega
    · simp; omega
  exact jnS_bound hall hlen
theorem o1_eq : jnS 32 (tw0 S m) ++ (⟨#[32, 108, 101, 118, 101, 108, 32]⟩ ++ numZ l) = jnS 32 (tw1 S l m) := by
  unfold tw1
  have hne : tw0 S m ≠ [] := by intro e; have := tw0_len (S := S) (m := m); rw [e] at this; simp at this
  rw [show tw0 S m ++ [wLevel, numZ l] = tw0 S m ++ [wLevel] ++ [numZ l] by simp, jnS_snoc (by simp), jnS_snoc hne]
  rw [show (⟨#[32, 108, 101, 118, 101, 108, 32]⟩ : ByteArray) = ⟨#[32]⟩ ++ wLevel ++ ⟨#[32]⟩ by decide]
  simp only [ByteArray.append_assoc]
theorem o2_eq (h : F.length ≠ 0) : jnS 32 (tw1 S l m) ++ (⟨#[32, 98, 121, 32]⟩ ++ jnS 44 (nsL S F)) = jnS 32 (tw2 S l F m) := by
  rw [tw2_yes h]
  have hne : tw1 S l m ≠ [] := by intro e; have := tw1_len (S := S) (l := l) (m := m); rw [e] at this; simp at this
  rw [show tw1 S l m ++ [wBy, jnS 44 (nsL S F)] = tw1 S l m ++ [wBy] ++ [jnS 44 (nsL S F)] by simp, jnS_snoc (by simp), jnS_snoc hne]
  rw [show (⟨#[32, 98, 121, 32]⟩ : ByteArray) = ⟨#[32]⟩ ++ wBy ++ ⟨#[32]⟩ by decide]
  simp only [ByteArray.append_assoc]
theorem o0_no (h : m = -1) : (⟨#[99, 111, 117, 110, 116]⟩ : ByteArray) = jnS 32 (tw0 S m) := by rw [tw0_no h, jnS_one]; rfl
theorem o0_yes {nm : ByteArray} (h : m ≠ -1) (k : naA S m.toNat = nm) : (⟨#[115, 117, 109, 32]⟩ : ByteArray) ++ nm = jnS 32 (tw0 S m) := by
  rw [tw0_yes h, k, show [wSum, nm] = [wSum] ++ [nm] from rfl, jnS_snoc (by simp), jnS_one, show (⟨#[115, 117, 109, 32]⟩ : ByteArray) = wSum ++ ⟨#[32]⟩ by decide]
end
set_option maxHeartbeats 8000000 in
theorem nt00 (y x z : Option Addr) (c1 c2 c3 : Nat) (P : List Int) (S : List (ByteArray × Int)) (l : Int) (F W : List Int) (m : Int) (w : World) (htg : TgP P S l F W m) (hS : SIn w y c1 S) (hT : TIn w x z F W) (hm : Hid (m = -1)) (hF0 : Hid (F.length = 0)) :
    Calls Tryd.prog 21 #[.slice y S.length c1, .agg #[.int .i64 l, .slice x F.length c2, .slice z W.length c3, .int .i64 m]] w fun e w' => e = .returned (.string (ttT S l F W m)) ∧ Below w.heap.size w w' := by
  have hSh := Lib.hid hS
  have hFh := Lib.hid hT.1
  have hWh := Lib.hid hT.2
  have hth := Lib.hid htg
  have hlv := tg_lv htg
  have h6 := (schB_len htg.s).2
  have hm1 := htg.m1
  have hm0 := htg.m0
  have hlW := Lib.hid (tw_len htg.w)
  have hz2 := oK_size htg (i := 0) (by omega)
  rw [oK_zero] at hz2
  have hnz := nsK_size htg.s htg.r F.length
  rw [nsK_all] at hnz
  have hnum := numZ_2 hlv.1 (by omega)
  clear hS hT htg
  have q0 := Lib.hid (TQ.new w l x F.length c2 z W.length c3 m 37)
  have hbA : Below w.heap.size w (w.alloc (.cells #[.int .i64 l, .slice x F.length c2, .slice z W.length c3, .int .i64 m] 37)) := (by repeat (first | exact Below.refl _ _ | assumption | refine Below.drew ?_ | refine below_drewN ?_ _ | refine Below.alloc' ?_ _ | (refine Below.setCell ?_ (by first | omega | (simp; done) | (simp; omega) | exact Below.size (by assumption) | exact Nat.le_trans (Below.size (by assumption)) (by simp)) _) | (refine Below.via' ?_ (by assumption)) | (refine Below.alloc ?_ (by first | omega | (simp; done) | (simp; omega) | exact Below.size (by assumption) | exact Nat.le_trans (Below.size (by assumption)) (by simp)) _) | (refine Below.via ?_ (by assumption) (by first | omega | (simp; done) | (simp; omega) | exact Below.size (by assumption) | exact Nat.le_trans (Below.size (by assumption)) (by simp)))))
  have hft : ¬ (0 : Int) < (F.length : Int) := by have := hF0.out; omega
  have hm2 : ¬ (0 : Int) ≤ m := by have := hm.out; omega
  have k7 : (⟨#[32, 108, 101, 118, 101, 108, 32]⟩ : ByteArray).size = 7 := rfl
  have k5 : (⟨#[99, 111, 117, 110, 116]⟩ : ByteArray).size = 5 := rfl
  have a1 : ¬ 9223372036854775807 < (⟨#[32, 108, 101, 118, 101, 108, 32]⟩ : ByteArray).size + (numZ l).size := by rw [k7]; omega
  have a1' : ¬ 9223372036854775807 < 7 + (numZ l).size := by omega
  have a2 : ¬ 9223372036854775807 < (⟨#[99, 111, 117, 110, 116]⟩ : ByteArray).size + (⟨#[32, 108, 101, 118, 101, 108, 32]⟩ ++ numZ l : ByteArray).size := by rw [ByteArray.size_append, k7, k5]; omega
  have a2' : ¬ 9223372036854775807 < 5 + (7 + (numZ l).size) := by omega
  have ho1 : (⟨#[99, 111, 117, 110, 116]⟩ : ByteArray) ++ (⟨#[32, 108, 101, 118, 101, 108, 32]⟩ ++ numZ l) = jnS 32 (tw1 S l m) := by rw [o0_no (S := S) hm.out]; exact o1_eq
  replace ho1 := Lib.hid ho1
  clear k7 k5
  obtain ⟨t0a, t0b, t0c, t0d, t0e⟩ := q0.out
  go_enter Tryd.func21, Tryd.ntmps21
  go_wp2_with fail
  refine (l1Num_any 30 l _ hlv.1 (by omega) (by omega)).mono ?_
  rintro e w1 ⟨rfl, hb1⟩
  have hB1 := Below.via' hbA hb1
  have tq1 := Lib.hid (q0.out.below hb1)
  clear q0 t0a t0b t0c t0d t0e
  obtain ⟨ta, tb, tc, td, te⟩ := tq1.out
  have ho2 := Lib.hid (show jnS 32 (tw1 S l m) = jnS 32 (tw2 S l F m) by rw [tw2_no hF0.out])
  go_upto_region 7 with fail
  rw [ho1.out, ho2.out]
  obtain ⟨w2, hw2⟩ : ∃ w2, w2 = w1 := ⟨_, rfl⟩
  rw [← hw2] at tq1 hB1 ⊢
  have tq2 := tq1
  have hB2 := hB1
  clear ta tb tc td te tq1 hw2 hb1
  obtain ⟨ta, tb, tc, td, te⟩ := tq2.out
  go_wp2
  go_loopw [5, 6, 41] (fun q f c wr => ∃ i : Nat, i ≤ W.length ∧ c = .int .i64 i ∧ q = .string (oK S l F W m i) ∧ f = .bool (decide ((cwU S W i).length = 0)) ∧ Below w2.heap.size w2 wr) (fun _ _ c _ => W.length - (intOf c).toNat)
  case atStart => exact ⟨0, by omega, by go_num, by rw [oK_zero], rfl, Below.refl _ _⟩
  case round =>
    obtain ⟨i, hi, rfl, rfl, rfl, hb⟩ := hrel
    have hBr := Below.via' hB2 hb
    by_cases hlt : i < W.length
    · obtain ⟨b1, o1, v', rfl, hb1, hWi, hc0⟩ := (hWh.out.below hBr).2.2.int hlt
      obtain ⟨nm', lv', hSi, l1, l2, x0, x1, x255⟩ := tw_get hth.out.s hth.out.w hWi
      have hiS : i < S.length := (List.getElem?_eq_some_iff.1 hSi).1
      obtain ⟨b2, o2, nm, lv, hy2, hb2, hSi2, hc1, hc2⟩ := (hSh.out.rd.below hBr).var hiS
      obtain ⟨rfl, rfl⟩ : nm = nm' ∧ lv = lv' := by
        have := Option.some.inj (hSi2.symm.trans hSi)
        injection this with a b
        exact ⟨a, b⟩
      first | subst hy2 | (injection hy2 with hy3; injection hy3 with hy4 hy5; subst hy4 hy5)
      have hcw := cwB_at hWi
      have hpa := Lib.hid (paS_at hSi hWi)
      have hns := name_size hth.out.s hSi
      have hos := oK_size hth.out (i := i) (by omega)
      have hi' : (i : Int) < (W.length : Int) := by omega
      have hi2 : (i : Int) < (S.length : Int) := by omega
      have hi0 : (0 : Int) ≤ (i : Int) := by omega
      replace hSi := Lib.hid hSi
      replace hSi2 := Lib.hid hSi2
      replace hWi := Lib.hid hWi
      by_cases hv0 : v' = 0
      · have hvb : (v' == 0) = true := by rw [hv0]; rfl
        have hsel := cwU_no (S := S) (hcw.trans (by rw [hv0]; rfl))
        have hok := Lib.hid (oK_same (l := l) (F := F) (m := m) hsel)
        replace hsel := Lib.hid hsel
        replace hv0 := Lib.hid hv0
        replace hcw := Lib.hid hcw
        go_wp2
        go_roundw
        case rel => exact ⟨i + 1, by omega, by go_num, by rw [hok.out], by rw [hsel.out], hb⟩
        case measure => simp [intOf]; omega
      · have hvb : (v' == 0) = false := by rw [beq_eq_false_iff_ne]; exact hv0
        have hsel := Lib.hid (cwU_yes (S := S) (hcw.trans (show (v' != 0) = true by simpa using hv0)))
        have x1' : 1 ≤ v' := by omega
        replace hv0 := Lib.hid hv0
        replace hcw := Lib.hid hcw
        have e1 : (⟨#[32]⟩ : ByteArray).size = 1 := rfl
        have e2 : (⟨#[61]⟩ : ByteArray).size = 1 := rfl
        have e3 : (⟨#[32, 119, 104, 101, 114, 101]⟩ : ByteArray).size = 6 := rfl
        have s1 : ¬ 9223372036854775807 < (⟨#[32]⟩ : ByteArray).size + nm.size := by rw [e1]; omega
        have s1' : ¬ 9223372036854775807 < 1 + nm.size := by omega
        have s2 : ¬ 9223372036854775807 < (⟨#[32]⟩ ++ nm : ByteArray).size + (⟨#[61]⟩ : ByteArray).size := by rw [ByteArray.size_append, e1, e2]; omega
        have s2' : ¬ 9223372036854775807 < 1 + nm.size + 1 := by omega
        by_cases hc : (cwU S W i).length = 0
        · have hd : decide ((cwU S W i).length = 0) = true := decide_eq_true hc
          rw [hd]
          have s3 : ¬ 9223372036854775807 < (oK S l F W m i).size + (⟨#[32, 119, 104, 101, 114, 101]⟩ : ByteArray).size := by rw [e3]; omega
          have s3' : ¬ 9223372036854775807 < (oK S l F W m i).size + 6 := by omega
          have s4 : ¬ 9223372036854775807 < (oK S l F W m i ++ ⟨#[32, 119, 104, 101, 114, 101]⟩).size + ((⟨#[32]⟩ ++ nm) ++ ⟨#[61]⟩ : ByteArray).size := by simp only [ByteArray.size_append, e1, e2, e3]; omega
          have s4' : ¬ 9223372036854775807 < (oK S l F W m i).size + 6 + (1 + nm.size + 1) := by omega
          have hok := Lib.hid (oK_first (l := l) (F := F) (m := m) hc hsel.out)
          replace hc := Lib.hid hc
          replace hd := Lib.hid hd
          clear e1 e2 e3
          skip
          go_wp2_with fail
          refine (eLevels_any _ _ (by omega) x255).mono ?_
          rintro e w4 ⟨u4, rfl, ho4, hb4⟩
          obtain ⟨x4, n4, rfl, -, -⟩ := (OwR.of ho4).form
          have A4 := Lib.hid (Rd.of_own ho4)
          have hB4 : Below w2.heap.size w2 w4 := Below.via' hb hb4
          clear ho4 hb4
          have hsz := Lib.hid (show ((oK S l F W m i ++ ⟨#[32, 119, 104, 101, 114, 101]⟩) ++ ((⟨#[32]⟩ ++ nm) ++ ⟨#[61]⟩)).size ≤ 1000 from by simp only [ByteArray.size_append]; have e1 : (⟨#[32]⟩ : ByteArray).size = 1 := rfl; have e2 : (⟨#[61]⟩ : ByteArray).size = 1 := rfl; have e3 : (⟨#[32, 119, 104, 101, 114, 101]⟩ : ByteArray).size = 6 := rfl; omega)
          obtain ⟨bs, hbs⟩ : ∃ bs : ByteArray, bs = (oK S l F W m i ++ ⟨#[32, 119, 104, 101, 114, 101]⟩) ++ ((⟨#[32]⟩ ++ nm) ++ ⟨#[61]⟩) := ⟨_, rfl⟩
          rw [← hbs] at hsz ⊢
          replace hbs := Lib.hid hbs
          go_wp2
          go_loopw [5, 63] (fun q c wx => ∃ (n : Nat) (t : ByteArray), n ≤ (lvsL v').length ∧ c = .int .i64 n ∧ q = .string t ∧ Hid (t = bs ++ stM v' n) ∧ t.size ≤ 1100 ∧ Below w4.heap.size w4 wx) (fun _ c _ => (lvsL v').length - (intOf c).toNat)
          case atStart => exact ⟨0, bs, by omega, by go_num, rfl, (by unfold Hid; rw [stM_zero]; exact ByteArray.append_empty.symm), (by have := hsz.out; omega), Below.refl _ _⟩
          case round =>
            obtain ⟨n, t, hn, rfl, rfl, ht, htz, hbx⟩ := hrel
            by_cases hln : n < (lvsL v').length
            · obtain ⟨bl5, off5, lz, hx5, hbl5, hA, hc5⟩ := (A4.out.below hbx).int hln
              have hl := lvs_i64 v' lz (List.mem_of_getElem? hA)
              have hl1 := lvs_one (List.mem_of_getElem? hA)
              have hln' : (n : Int) < ((lvsL v').length : Int) := by omega
              have hn0 : (0 : Int) ≤ (n : Int) := by omega
              have hlvn := lvsL_len v'
              have k1 : (⟨#[44]⟩ : ByteArray).size = 1 := rfl
              have g1 : ¬ 9223372036854775807 < t.size + (⟨#[44]⟩ : ByteArray).size := by rw [k1]; omega
              have g2 : ¬ 9223372036854775807 < (t ++ ⟨#[44]⟩).size + (numZ lz).size := by rw [ByteArray.size_append, k1]; omega
              have g3 : ¬ 9223372036854775807 < t.size + 1 := by omega
              have g4 : ¬ 9223372036854775807 < t.size + 1 + (numZ lz).size := by omega
              have g5 : ¬ 9223372036854775807 < t.size + (numZ lz).size := by omega
              have hst := Lib.hid (stM_size v' (n + 1))
              clear k1
              have hx5h := Lib.hid hx5
              replace hl1 := Lib.hid hl1
              clear hx5
              rw [hx5h.out]
              rcases Nat.eq_zero_or_pos n with h0 | h0
              · have hnx : Hid (t ++ numZ lz = bs ++ stM v' (n + 1)) := by
                  unfold Hid
                  rw [ht.out]
                  subst h0
                  rw [stM_zero, stM_first hA]
                  congr 1 <;> exact ByteArray.append_empty
                have hgt : ¬ ((0 : Int) < (n : Int)) := by omega
                replace hA := Lib.hid hA
                replace h0 := Lib.hid h0
                go_wp2_with fail
                refine (l1Num_any 8 lz _ (by omega) (by omega) (by omega)).mono ?_
                rintro e w6 ⟨rfl, hb6⟩
                go_wp2
                go_roundw
                case rel => exact ⟨n + 1, _, by omega, by go_num, rfl, hnx.out, (by rw [hnx.out, ByteArray.size_append]; have := hst.out; have := hsz.out; omega), (by repeat (first | exact Below.refl _ _ | assumption | refine Below.drew ?_ | refine below_drewN ?_ _ | refine Below.alloc' ?_ _ | (refine Below.setCell ?_ (by first | omega | (simp; done) | (simp; omega) | exact Below.size (by assumption) | exact Nat.le_trans (Below.size (by assumption)) (by simp)) _) | (refine Below.via' ?_ (by assumption)) | (refine Below.alloc ?_ (by first | omega | (simp; done) | (simp; omega) | exact Below.size (by assumption) | exact Nat.le_trans (Below.size (by assumption)) (by simp)) _) | (refine Below.via ?_ (by assumption) (by first | omega | (simp; done) | (simp; omega) | exact Below.size (by assumption) | exact Nat.le_trans (Below.size (by assumption)) (by simp)))))⟩
                case measure => simp [intOf]; omega
              · have hnx : Hid (t ++ ⟨#[44]⟩ ++ numZ lz = bs ++ stM v' (n + 1)) := by
                  unfold Hid
                  rw [ht.out, stM_next h0 hA]
                  simp only [ByteArray.append_assoc]
                have hgt : (0 : Int) < (n : Int) := by omega
                replace hA := Lib.hid hA
                go_wp2_with fail
                refine (l1Num_any 8 lz _ (by omega) (by omega) (by omega)).mono ?_
                rintro e w6 ⟨rfl, hb6⟩
                go_wp2
                go_roundw
                case rel => exact ⟨n + 1, _, by omega, by go_num, rfl, hnx.out, (by rw [hnx.out, ByteArray.size_append]; have := hst.out; have := hsz.out; omega), (by repeat (first | exact Below.refl _ _ | assumption | refine Below.drew ?_ | refine below_drewN ?_ _ | refine Below.alloc' ?_ _ | (refine Below.setCell ?_ (by first | omega | (simp; done) | (simp; omega) | exact Below.size (by assumption) | exact Nat.le_trans (Below.size (by assumption)) (by simp)) _) | (refine Below.via' ?_ (by assumption)) | (refine Below.alloc ?_ (by first | omega | (simp; done) | (simp; omega) | exact Below.size (by assumption) | exact Nat.le_trans (Below.size (by assumption)) (by simp)) _) | (refine Below.via ?_ (by assumption) (by first | omega | (simp; done) | (simp; omega) | exact Below.size (by assumption) | exact Nat.le_trans (Below.size (by assumption)) (by simp)))))⟩
                case measure => simp [intOf]; omega
            · have hmm : n = (lvsL v').length := by omega
              have hfin : Hid (t = oK S l F W m (i + 1)) := by
                unfold Hid
                rw [ht.out, hmm, stM_all, hbs.out]
                exact (by rw [hok.out, hpa.out]; unfold paT; rw [show (⟨#[32, 119, 104, 101, 114, 101]⟩ : ByteArray) = ⟨#[32]⟩ ++ wWhere by decide]; simp only [ByteArray.append_assoc])
              have hfl := Lib.hid (show decide ((cwU S W (i + 1)).length = 0) = false from decide_eq_false (by rw [hsel.out]; simp))
              replace hmm := Lib.hid hmm
              have hln' : ¬ (n : Int) < ((lvsL v').length : Int) := by omega
              go_wp2
              go_roundw
              case rel =>
                first
                  | exact ⟨i + 1, by omega, by go_num, by rw [hfin.out], by rw [hfl.out], Below.via' hB4 hbx⟩
                  | (refine ⟨_, _, _, _, _, _, _, ⟨i + 1, by omega, ?_, ?_, ?_, Below.via' hB4 hbx⟩, rfl, rfl, rfl, rfl, rfl, rfl, rfl⟩ <;> first | (rw [hfin.out]; done) | (go_num; done) | (simp [hsel.out]; done))
              case measure => simp [intOf]; omega
        · have hd : decide ((cwU S W i).length = 0) = false := decide_eq_false hc
          rw [hd]
          have s4 : ¬ 9223372036854775807 < (oK S l F W m i).size + ((⟨#[32]⟩ ++ nm) ++ ⟨#[61]⟩ : ByteArray).size := by simp only [ByteArray.size_append, e1, e2]; omega
          have s4' : ¬ 9223372036854775807 < (oK S l F W m i).size + (1 + nm.size + 1) := by omega
          have hok := Lib.hid (oK_next (l := l) (F := F) (m := m) hc hsel.out)
          replace hc := Lib.hid hc
          replace hd := Lib.hid hd
          clear e1 e2 e3
          go_wp2_with fail
          refine (eLevels_any _ _ (by omega) x255).mono ?_
          rintro e w4 ⟨u4, rfl, ho4, hb4⟩
          obtain ⟨x4, n4, rfl, -, -⟩ := (OwR.of ho4).form
          have A4 := Lib.hid (Rd.of_own ho4)
          have hB4 : Below w2.heap.size w2 w4 := Below.via' hb hb4
          clear ho4 hb4
          have hsz := Lib.hid (show (oK S l F W m i ++ ((⟨#[32]⟩ ++ nm) ++ ⟨#[61]⟩)).size ≤ 1000 from by simp only [ByteArray.size_append]; have e1 : (⟨#[32]⟩ : ByteArray).size = 1 := rfl; have e2 : (⟨#[61]⟩ : ByteArray).size = 1 := rfl; have e3 : (⟨#[32, 119, 104, 101, 114, 101]⟩ : ByteArray).size = 6 := rfl; omega)
          obtain ⟨bs, hbs⟩ : ∃ bs : ByteArray, bs = oK S l F W m i ++ ((⟨#[32]⟩ ++ nm) ++ ⟨#[61]⟩) := ⟨_, rfl⟩
          rw [← hbs] at hsz ⊢
          replace hbs := Lib.hid hbs
          go_wp2
          go_loopw [5, 63] (fun q c wx => ∃ (n : Nat) (t : ByteArray), n ≤ (lvsL v').length ∧ c = .int .i64 n ∧ q = .string t ∧ Hid (t = bs ++ stM v' n) ∧ t.size ≤ 1100 ∧ Below w4.heap.size w4 wx) (fun _ c _ => (lvsL v').length - (intOf c).toNat)
          case atStart => exact ⟨0, bs, by omega, by go_num, rfl, (by unfold Hid; rw [stM_zero]; exact ByteArray.append_empty.symm), (by have := hsz.out; omega), Below.refl _ _⟩
          case round =>
            obtain ⟨n, t, hn, rfl, rfl, ht, htz, hbx⟩ := hrel
            by_cases hln : n < (lvsL v').length
            · obtain ⟨bl5, off5, lz, hx5, hbl5, hA, hc5⟩ := (A4.out.below hbx).int hln
              have hl := lvs_i64 v' lz (List.mem_of_getElem? hA)
              have hl1 := lvs_one (List.mem_of_getElem? hA)
              have hln' : (n : Int) < ((lvsL v').length : Int) := by omega
              have hn0 : (0 : Int) ≤ (n : Int) := by omega
              have hlvn := lvsL_len v'
              have k1 : (⟨#[44]⟩ : ByteArray).size = 1 := rfl
              have g1 : ¬ 9223372036854775807 < t.size + (⟨#[44]⟩ : ByteArray).size := by rw [k1]; omega
              have g2 : ¬ 9223372036854775807 < (t ++ ⟨#[44]⟩).size + (numZ lz).size := by rw [ByteArray.size_append, k1]; omega
              have g3 : ¬ 9223372036854775807 < t.size + 1 := by omega
              have g4 : ¬ 9223372036854775807 < t.size + 1 + (numZ lz).size := by omega
              have g5 : ¬ 9223372036854775807 < t.size + (numZ lz).size := by omega
              have hst := Lib.hid (stM_size v' (n + 1))
              clear k1
              have hx5h := Lib.hid hx5
              replace hl1 := Lib.hid hl1
              clear hx5
              rw [hx5h.out]
              rcases Nat.eq_zero_or_pos n with h0 | h0
              · have hnx : Hid (t ++ numZ lz = bs ++ stM v' (n + 1)) := by
                  unfold Hid
                  rw [ht.out]
                  subst h0
                  rw [stM_zero, stM_first hA]
                  congr 1 <;> exact ByteArray.append_empty
                have hgt : ¬ ((0 : Int) < (n : Int)) := by omega
                replace hA := Lib.hid hA
                replace h0 := Lib.hid h0
                go_wp2_with fail
                refine (l1Num_any 8 lz _ (by omega) (by omega) (by omega)).mono ?_
                rintro e w6 ⟨rfl, hb6⟩
                go_wp2
                go_roundw
                case rel => exact ⟨n + 1, _, by omega, by go_num, rfl, hnx.out, (by rw [hnx.out, ByteArray.size_append]; have := hst.out; have := hsz.out; omega), (by repeat (first | exact Below.refl _ _ | assumption | refine Below.drew ?_ | refine below_drewN ?_ _ | refine Below.alloc' ?_ _ | (refine Below.setCell ?_ (by first | omega | (simp; done) | (simp; omega) | exact Below.size (by assumption) | exact Nat.le_trans (Below.size (by assumption)) (by simp)) _) | (refine Below.via' ?_ (by assumption)) | (refine Below.alloc ?_ (by first | omega | (simp; done) | (simp; omega) | exact Below.size (by assumption) | exact Nat.le_trans (Below.size (by assumption)) (by simp)) _) | (refine Below.via ?_ (by assumption) (by first | omega | (simp; done) | (simp; omega) | exact Below.size (by assumption) | exact Nat.le_trans (Below.size (by assumption)) (by simp)))))⟩
                case measure => simp [intOf]; omega
              · have hnx : Hid (t ++ ⟨#[44]⟩ ++ numZ lz = bs ++ stM v' (n + 1)) := by
                  unfold Hid
                  rw [ht.out, stM_next h0 hA]
                  simp only [ByteArray.append_assoc]
                have hgt : (0 : Int) < (n : Int) := by omega
                replace hA := Lib.hid hA
                go_wp2_with fail
                refine (l1Num_any 8 lz _ (by omega) (by omega) (by omega)).mono ?_
                rintro e w6 ⟨rfl, hb6⟩
                go_wp2
                go_roundw
                case rel => exact ⟨n + 1, _, by omega, by go_num, rfl, hnx.out, (by rw [hnx.out, ByteArray.size_append]; have := hst.out; have := hsz.out; omega), (by repeat (first | exact Below.refl _ _ | assumption | refine Below.drew ?_ | refine below_drewN ?_ _ | refine Below.alloc' ?_ _ | (refine Below.setCell ?_ (by first | omega | (simp; done) | (simp; omega) | exact Below.size (by assumption) | exact Nat.le_trans (Below.size (by assumption)) (by simp)) _) | (refine Below.via' ?_ (by assumption)) | (refine Below.alloc ?_ (by first | omega | (simp; done) | (simp; omega) | exact Below.size (by assumption) | exact Nat.le_trans (Below.size (by assumption)) (by simp)) _) | (refine Below.via ?_ (by assumption) (by first | omega | (simp; done) | (simp; omega) | exact Below.size (by assumption) | exact Nat.le_trans (Below.size (by assumption)) (by simp)))))⟩
                case measure => simp [intOf]; omega
            · have hmm : n = (lvsL v').length := by omega
              have hfin : Hid (t = oK S l F W m (i + 1)) := by
                unfold Hid
                rw [ht.out, hmm, stM_all, hbs.out]
                exact (by rw [hok.out, hpa.out]; unfold paT; simp only [ByteArray.append_assoc])
              have hfl := Lib.hid (show decide ((cwU S W (i + 1)).length = 0) = false from decide_eq_false (by rw [hsel.out]; simp))
              replace hmm := Lib.hid hmm
              have hln' : ¬ (n : Int) < ((lvsL v').length : Int) := by omega
              go_wp2
              go_roundw
              case rel =>
                first
                  | exact ⟨i + 1, by omega, by go_num, by rw [hfin.out], by rw [hfl.out], Below.via' hB4 hbx⟩
                  | (refine ⟨_, _, _, _, _, _, _, ⟨i + 1, by omega, ?_, ?_, ?_, Below.via' hB4 hbx⟩, rfl, rfl, rfl, rfl, rfl, rfl, rfl⟩ <;> first | (rw [hfin.out]; done) | (go_num; done) | (simp [hsel.out]; done))
              case measure => simp [intOf]; omega
    · have hij : i = S.length := by have := hlW.out; omega
      have hv := Lib.hid (show oK S l F W m i = ttT S l F W m by rw [hij]; exact oK_all)
      have hi' : ¬ (i : Int) < (W.length : Int) := by omega
      replace hij := Lib.hid hij
      go_wp2
      go_ret
      exact ⟨by first | rfl | (rw [hv.out]; rfl) | (rw [hv.out, hmq.out]; rfl) | (rw [hv.out]; first | rfl | (rw [← hmq.out]; rfl)), hBr⟩
set_option maxHeartbeats 8000000 in
theorem nt01 (y x z : Option Addr) (c1 c2 c3 : Nat) (P : List Int) (S : List (ByteArray × Int)) (l : Int) (F W : List Int) (m : Int) (w : World) (htg : TgP P S l F W m) (hS : SIn w y c1 S) (hT : TIn w x z F W) (hm : Hid (m = -1)) (hF0 : Hid (F.length ≠ 0)) :
    Calls Tryd.prog 21 #[.slice y S.length c1, .agg #[.int .i64 l, .slice x F.length c2, .slice z W.length c3, .int .i64 m]] w fun e w' => e = .returned (.string (ttT S l F W m)) ∧ Below w.heap.size w w' := by
  have hSh := Lib.hid hS
  have hFh := Lib.hid hT.1
  have hWh := Lib.hid hT.2
  have hth := Lib.hid htg
  have hlv := tg_lv htg
  have h6 := (schB_len htg.s).2
  have hm1 := htg.m1
  have hm0 := htg.m0
  have hlW := Lib.hid (tw_len htg.w)
  have hz2 := oK_size htg (i := 0) (by omega)
  rw [oK_zero] at hz2
  have hnz := nsK_size htg.s htg.r F.length
  rw [nsK_all] at hnz
  have hnum := numZ_2 hlv.1 (by omega)
  clear hS hT htg
  have q0 := Lib.hid (TQ.new w l x F.length c2 z W.length c3 m 37)
  have hbA : Below w.heap.size w (w.alloc (.cells #[.int .i64 l, .slice x F.length c2, .slice z W.length c3, .int .i64 m] 37)) := (by repeat (first | exact Below.refl _ _ | assumption | refine Below.drew ?_ | refine below_drewN ?_ _ | refine Below.alloc' ?_ _ | (refine Below.setCell ?_ (by first | omega | (simp; done) | (simp; omega) | exact Below.size (by assumption) | exact Nat.le_trans (Below.size (by assumption)) (by simp)) _) | (refine Below.via' ?_ (by assumption)) | (refine Below.alloc ?_ (by first | omega | (simp; done) | (simp; omega) | exact Below.size (by assumption) | exact Nat.le_trans (Below.size (by assumption)) (by simp)) _) | (refine Below.via ?_ (by assumption) (by first | omega | (simp; done) | (simp; omega) | exact Below.size (by assumption) | exact Nat.le_trans (Below.size (by assumption)) (by simp)))))
  have hft : (0 : Int) < (F.length : Int) := by have := hF0.out; omega
  have hm2 : ¬ (0 : Int) ≤ m := by have := hm.out; omega
  have k7 : (⟨#[32, 108, 101, 118, 101, 108, 32]⟩ : ByteArray).size = 7 := rfl
  have k5 : (⟨#[99, 111, 117, 110, 116]⟩ : ByteArray).size = 5 := rfl
  have a1 : ¬ 9223372036854775807 < (⟨#[32, 108, 101, 118, 101, 108, 32]⟩ : ByteArray).size + (numZ l).size := by rw [k7]; omega
  have a1' : ¬ 9223372036854775807 < 7 + (numZ l).size := by omega
  have a2 : ¬ 9223372036854775807 < (⟨#[99, 111, 117, 110, 116]⟩ : ByteArray).size + (⟨#[32, 108, 101, 118, 101, 108, 32]⟩ ++ numZ l : ByteArray).size := by rw [ByteArray.size_append, k7, k5]; omega
  have a2' : ¬ 9223372036854775807 < 5 + (7 + (numZ l).size) := by omega
  have ho1 : (⟨#[99, 111, 117, 110, 116]⟩ : ByteArray) ++ (⟨#[32, 108, 101, 118, 101, 108, 32]⟩ ++ numZ l) = jnS 32 (tw1 S l m) := by rw [o0_no (S := S) hm.out]; exact o1_eq
  replace ho1 := Lib.hid ho1
  clear k7 k5
  obtain ⟨t0a, t0b, t0c, t0d, t0e⟩ := q0.out
  go_enter Tryd.func21, Tryd.ntmps21
  go_wp2_with fail
  refine (l1Num_any 30 l _ hlv.1 (by omega) (by omega)).mono ?_
  rintro e w1 ⟨rfl, hb1⟩
  have hB1 := Below.via' hbA hb1
  have tq1 := Lib.hid (q0.out.below hb1)
  clear q0 t0a t0b t0c t0d t0e
  obtain ⟨ta, tb, tc, td, te⟩ := tq1.out
  have ho2 := o2_eq (S := S) (l := l) (m := m) hF0.out
  have hz1 := congrArg ByteArray.size ho2
  have k4 : (⟨#[32, 98, 121, 32]⟩ : ByteArray).size = 4 := rfl
  simp only [ByteArray.size_append, k4] at hz1
  have a3 : ¬ 9223372036854775807 < (⟨#[32, 98, 121, 32]⟩ : ByteArray).size + (jnS 44 (nsL S F)).size := by rw [k4]; omega
  have a3' : ¬ 9223372036854775807 < 4 + (jnS 44 (nsL S F)).size := by omega
  have a4 : ¬ 9223372036854775807 < (jnS 32 (tw1 S l m)).size + (⟨#[32, 98, 121, 32]⟩ ++ jnS 44 (nsL S F) : ByteArray).size := by simp only [ByteArray.size_append, k4]; omega
  have a4' : ¬ 9223372036854775807 < (jnS 32 (tw1 S l m)).size + (4 + (jnS 44 (nsL S F)).size) := by omega
  replace ho2 := Lib.hid ho2
  replace hz1 := Lib.hid hz1
  clear k4
  go_wp2_with fail
  rw [ho1.out]
  refine (nNames_any _ _ _ _ S F _ hth.out.s hth.out.r (hSh.out.below hB1) (hFh.out.below hB1)).mono ?_
  rintro e w2 ⟨rfl, hb2⟩
  have hB2 := Below.via' hB1 hb2
  have tq2 := Lib.hid (tq1.out.below hb2)
  clear ta tb tc td te tq1 hb2
  obtain ⟨ta, tb, tc, td, te⟩ := tq2.out
  go_upto_region 7 with fail
  rw [ho2.out]
  clear ta tb tc td te
  obtain ⟨ta, tb, tc, td, te⟩ := tq2.out
  go_wp2
  go_loopw [5, 6, 41] (fun q f c wr => ∃ i : Nat, i ≤ W.length ∧ c = .int .i64 i ∧ q = .string (oK S l F W m i) ∧ f = .bool (decide ((cwU S W i).length = 0)) ∧ Below w2.heap.size w2 wr) (fun _ _ c _ => W.length - (intOf c).toNat)
  case atStart => exact ⟨0, by omega, by go_num, by rw [oK_zero], rfl, Below.refl _ _⟩
  case round =>
    obtain ⟨i, hi, rfl, rfl, rfl, hb⟩ := hrel
    have hBr := Below.via' hB2 hb
    by_cases hlt : i < W.length
    · obtain ⟨b1, o1, v', rfl, hb1, hWi, hc0⟩ := (hWh.out.below hBr).2.2.int hlt
      obtain ⟨nm', lv', hSi, l1, l2, x0, x1, x255⟩ := tw_get hth.out.s hth.out.w hWi
      have hiS : i < S.length := (List.getElem?_eq_some_iff.1 hSi).1
      obtain ⟨b2, o2, nm, lv, hy2, hb2, hSi2, hc1, hc2⟩ := (hSh.out.rd.below hBr).var hiS
      obtain ⟨rfl, rfl⟩ : nm = nm' ∧ lv = lv' := by
        have := Option.some.inj (hSi2.symm.trans hSi)
        injection this with a b
        exact ⟨a, b⟩
      first | subst hy2 | (injection hy2 with hy3; injection hy3 with hy4 hy5; subst hy4 hy5)
      have hcw := cwB_at hWi
      have hpa := Lib.hid (paS_at hSi hWi)
      have hns := name_size hth.out.s hSi
      have hos := oK_size hth.out (i := i) (by omega)
      have hi' : (i : Int) < (W.length : Int) := by omega
      have hi2 : (i : Int) < (S.length : Int) := by omega
      have hi0 : (0 : Int) ≤ (i : Int) := by omega
      replace hSi := Lib.hid hSi
      replace hSi2 := Lib.hid hSi2
      replace hWi := Lib.hid hWi
      by_cases hv0 : v' = 0
      · have hvb : (v' == 0) = true := by rw [hv0]; rfl
        have hsel := cwU_no (S := S) (hcw.trans (by rw [hv0]; rfl))
        have hok := Lib.hid (oK_same (l := l) (F := F) (m := m) hsel)
        replace hsel := Lib.hid hsel
        replace hv0 := Lib.hid hv0
        replace hcw := Lib.hid hcw
        go_wp2
        go_roundw
        case rel => exact ⟨i + 1, by omega, by go_num, by rw [hok.out], by rw [hsel.out], hb⟩
        case measure => simp [intOf]; omega
      · have hvb : (v' == 0) = false := by rw [beq_eq_false_iff_ne]; exact hv0
        have hsel := Lib.hid (cwU_yes (S := S) (hcw.trans (show (v' != 0) = true by simpa using hv0)))
        have x1' : 1 ≤ v' := by omega
        replace hv0 := Lib.hid hv0
        replace hcw := Lib.hid hcw
        have e1 : (⟨#[32]⟩ : ByteArray).size = 1 := rfl
        have e2 : (⟨#[61]⟩ : ByteArray).size = 1 := rfl
        have e3 : (⟨#[32, 119, 104, 101, 114, 101]⟩ : ByteArray).size = 6 := rfl
        have s1 : ¬ 9223372036854775807 < (⟨#[32]⟩ : ByteArray).size + nm.size := by rw [e1]; omega
        have s1' : ¬ 9223372036854775807 < 1 + nm.size := by omega
        have s2 : ¬ 9223372036854775807 < (⟨#[32]⟩ ++ nm : ByteArray).size + (⟨#[61]⟩ : ByteArray).size := by rw [ByteArray.size_append, e1, e2]; omega
        have s2' : ¬ 9223372036854775807 < 1 + nm.size + 1 := by omega
        by_cases hc : (cwU S W i).length = 0
        · have hd : decide ((cwU S W i).length = 0) = true := decide_eq_true hc
          rw [hd]
          have s3 : ¬ 9223372036854775807 < (oK S l F W m i).size + (⟨#[32, 119, 104, 101, 114, 101]⟩ : ByteArray).size := by rw [e3]; omega
          have s3' : ¬ 9223372036854775807 < (oK S l F W m i).size + 6 := by omega
          have s4 : ¬ 9223372036854775807 < (oK S l F W m i ++ ⟨#[32, 119, 104, 101, 114, 101]⟩).size + ((⟨#[32]⟩ ++ nm) ++ ⟨#[61]⟩ : ByteArray).size := by simp only [ByteArray.size_append, e1, e2, e3]; omega
          have s4' : ¬ 9223372036854775807 < (oK S l F W m i).size + 6 + (1 + nm.size + 1) := by omega
          have hok := Lib.hid (oK_first (l := l) (F := F) (m := m) hc hsel.out)
          replace hc := Lib.hid hc
          replace hd := Lib.hid hd
          clear e1 e2 e3
          skip
          go_wp2_with fail
          refine (eLevels_any _ _ (by omega) x255).mono ?_
          rintro e w4 ⟨u4, rfl, ho4, hb4⟩
          obtain ⟨x4, n4, rfl, -, -⟩ := (OwR.of ho4).form
          have A4 := Lib.hid (Rd.of_own ho4)
          have hB4 : Below w2.heap.size w2 w4 := Below.via' hb hb4
          clear ho4 hb4
          have hsz := Lib.hid (show ((oK S l F W m i ++ ⟨#[32, 119, 104, 101, 114, 101]⟩) ++ ((⟨#[32]⟩ ++ nm) ++ ⟨#[61]⟩)).size ≤ 1000 from by simp only [ByteArray.size_append]; have e1 : (⟨#[32]⟩ : ByteArray).size = 1 := rfl; have e2 : (⟨#[61]⟩ : ByteArray).size = 1 := rfl; have e3 : (⟨#[32, 119, 104, 101, 114, 101]⟩ : ByteArray).size = 6 := rfl; omega)
          obtain ⟨bs, hbs⟩ : ∃ bs : ByteArray, bs = (oK S l F W m i ++ ⟨#[32, 119, 104, 101, 114, 101]⟩) ++ ((⟨#[32]⟩ ++ nm) ++ ⟨#[61]⟩) := ⟨_, rfl⟩
          rw [← hbs] at hsz ⊢
          replace hbs := Lib.hid hbs
          go_wp2
          go_loopw [5, 63] (fun q c wx => ∃ (n : Nat) (t : ByteArray), n ≤ (lvsL v').length ∧ c = .int .i64 n ∧ q = .string t ∧ Hid (t = bs ++ stM v' n) ∧ t.size ≤ 1100 ∧ Below w4.heap.size w4 wx) (fun _ c _ => (lvsL v').length - (intOf c).toNat)
          case atStart => exact ⟨0, bs, by omega, by go_num, rfl, (by unfold Hid; rw [stM_zero]; exact ByteArray.append_empty.symm), (by have := hsz.out; omega), Below.refl _ _⟩
          case round =>
            obtain ⟨n, t, hn, rfl, rfl, ht, htz, hbx⟩ := hrel
            by_cases hln : n < (lvsL v').length
            · obtain ⟨bl5, off5, lz, hx5, hbl5, hA, hc5⟩ := (A4.out.below hbx).int hln
              have hl := lvs_i64 v' lz (List.mem_of_getElem? hA)
              have hl1 := lvs_one (List.mem_of_getElem? hA)
              have hln' : (n : Int) < ((lvsL v').length : Int) := by omega
              have hn0 : (0 : Int) ≤ (n : Int) := by omega
              have hlvn := lvsL_len v'
              have k1 : (⟨#[44]⟩ : ByteArray).size = 1 := rfl
              have g1 : ¬ 9223372036854775807 < t.size + (⟨#[44]⟩ : ByteArray).size := by rw [k1]; omega
              have g2 : ¬ 9223372036854775807 < (t ++ ⟨#[44]⟩).size + (numZ lz).size := by rw [ByteArray.size_append, k1]; omega
              have g3 : ¬ 9223372036854775807 < t.size + 1 := by omega
              have g4 : ¬ 9223372036854775807 < t.size + 1 + (numZ lz).size := by omega
              have g5 : ¬ 9223372036854775807 < t.size + (numZ lz).size := by omega
              have hst := Lib.hid (stM_size v' (n + 1))
              clear k1
              have hx5h := Lib.hid hx5
              replace hl1 := Lib.hid hl1
              clear hx5
              rw [hx5h.out]
              rcases Nat.eq_zero_or_pos n with h0 | h0
              · have hnx : Hid (t ++ numZ lz = bs ++ stM v' (n + 1)) := by
                  unfold Hid
                  rw [ht.out]
                  subst h0
                  rw [stM_zero, stM_first hA]
                  congr 1 <;> exact ByteArray.append_empty
                have hgt : ¬ ((0 : Int) < (n : Int)) := by omega
                replace hA := Lib.hid hA
                replace h0 := Lib.hid h0
                go_wp2_with fail
                refine (l1Num_any 8 lz _ (by omega) (by omega) (by omega)).mono ?_
                rintro e w6 ⟨rfl, hb6⟩
                go_wp2
                go_roundw
                case rel => exact ⟨n + 1, _, by omega, by go_num, rfl, hnx.out, (by rw [hnx.out, ByteArray.size_append]; have := hst.out; have := hsz.out; omega), (by repeat (first | exact Below.refl _ _ | assumption | refine Below.drew ?_ | refine below_drewN ?_ _ | refine Below.alloc' ?_ _ | (refine Below.setCell ?_ (by first | omega | (simp; done) | (simp; omega) | exact Below.size (by assumption) | exact Nat.le_trans (Below.size (by assumption)) (by simp)) _) | (refine Below.via' ?_ (by assumption)) | (refine Below.alloc ?_ (by first | omega | (simp; done) | (simp; omega) | exact Below.size (by assumption) | exact Nat.le_trans (Below.size (by assumption)) (by simp)) _) | (refine Below.via ?_ (by assumption) (by first | omega | (simp; done) | (simp; omega) | exact Below.size (by assumption) | exact Nat.le_trans (Below.size (by assumption)) (by simp)))))⟩
                case measure => simp [intOf]; omega
              · have hnx : Hid (t ++ ⟨#[44]⟩ ++ numZ lz = bs ++ stM v' (n + 1)) := by
                  unfold Hid
                  rw [ht.out, stM_next h0 hA]
                  simp only [ByteArray.append_assoc]
                have hgt : (0 : Int) < (n : Int) := by omega
                replace hA := Lib.hid hA
                go_wp2_with fail
                refine (l1Num_any 8 lz _ (by omega) (by omega) (by omega)).mono ?_
                rintro e w6 ⟨rfl, hb6⟩
                go_wp2
                go_roundw
                case rel => exact ⟨n + 1, _, by omega, by go_num, rfl, hnx.out, (by rw [hnx.out, ByteArray.size_append]; have := hst.out; have := hsz.out; omega), (by repeat (first | exact Below.refl _ _ | assumption | refine Below.drew ?_ | refine below_drewN ?_ _ | refine Below.alloc' ?_ _ | (refine Below.setCell ?_ (by first | omega | (simp; done) | (simp; omega) | exact Below.size (by assumption) | exact Nat.le_trans (Below.size (by assumption)) (by simp)) _) | (refine Below.via' ?_ (by assumption)) | (refine Below.alloc ?_ (by first | omega | (simp; done) | (simp; omega) | exact Below.size (by assumption) | exact Nat.le_trans (Below.size (by assumption)) (by simp)) _) | (refine Below.via ?_ (by assumption) (by first | omega | (simp; done) | (simp; omega) | exact Below.size (by assumption) | exact Nat.le_trans (Below.size (by assumption)) (by simp)))))⟩
                case measure => simp [intOf]; omega
            · have hmm : n = (lvsL v').length := by omega
              have hfin : Hid (t = oK S l F W m (i + 1)) := by
                unfold Hid
                rw [ht.out, hmm, stM_all, hbs.out]
                exact (by rw [hok.out, hpa.out]; unfold paT; rw [show (⟨#[32, 119, 104, 101, 114, 101]⟩ : ByteArray) = ⟨#[32]⟩ ++ wWhere by decide]; simp only [ByteArray.append_assoc])
              have hfl := Lib.hid (show decide ((cwU S W (i + 1)).length = 0) = false from decide_eq_false (by rw [hsel.out]; simp))
              replace hmm := Lib.hid hmm
              have hln' : ¬ (n : Int) < ((lvsL v').length : Int) := by omega
              go_wp2
              go_roundw
              case rel =>
                first
                  | exact ⟨i + 1, by omega, by go_num, by rw [hfin.out], by rw [hfl.out], Below.via' hB4 hbx⟩
                  | (refine ⟨_, _, _, _, _, _, _, ⟨i + 1, by omega, ?_, ?_, ?_, Below.via' hB4 hbx⟩, rfl, rfl, rfl, rfl, rfl, rfl, rfl⟩ <;> first | (rw [hfin.out]; done) | (go_num; done) | (simp [hsel.out]; done))
              case measure => simp [intOf]; omega
        · have hd : decide ((cwU S W i).length = 0) = false := decide_eq_false hc
          rw [hd]
          have s4 : ¬ 9223372036854775807 < (oK S l F W m i).size + ((⟨#[32]⟩ ++ nm) ++ ⟨#[61]⟩ : ByteArray).size := by simp only [ByteArray.size_append, e1, e2]; omega
          have s4' : ¬ 9223372036854775807 < (oK S l F W m i).size + (1 + nm.size + 1) := by omega
          have hok := Lib.hid (oK_next (l := l) (F := F) (m := m) hc hsel.out)
          replace hc := Lib.hid hc
          replace hd := Lib.hid hd
          clear e1 e2 e3
          go_wp2_with fail
          refine (eLevels_any _ _ (by omega) x255).mono ?_
          rintro e w4 ⟨u4, rfl, ho4, hb4⟩
          obtain ⟨x4, n4, rfl, -, -⟩ := (OwR.of ho4).form
          have A4 := Lib.hid (Rd.of_own ho4)
          have hB4 : Below w2.heap.size w2 w4 := Below.via' hb hb4
          clear ho4 hb4
          have hsz := Lib.hid (show (oK S l F W m i ++ ((⟨#[32]⟩ ++ nm) ++ ⟨#[61]⟩)).size ≤ 1000 from by simp only [ByteArray.size_append]; have e1 : (⟨#[32]⟩ : ByteArray).size = 1 := rfl; have e2 : (⟨#[61]⟩ : ByteArray).size = 1 := rfl; have e3 : (⟨#[32, 119, 104, 101, 114, 101]⟩ : ByteArray).size = 6 := rfl; omega)
          obtain ⟨bs, hbs⟩ : ∃ bs : ByteArray, bs = oK S l F W m i ++ ((⟨#[32]⟩ ++ nm) ++ ⟨#[61]⟩) := ⟨_, rfl⟩
          rw [← hbs] at hsz ⊢
          replace hbs := Lib.hid hbs
          go_wp2
          go_loopw [5, 63] (fun q c wx => ∃ (n : Nat) (t : ByteArray), n ≤ (lvsL v').length ∧ c = .int .i64 n ∧ q = .string t ∧ Hid (t = bs ++ stM v' n) ∧ t.size ≤ 1100 ∧ Below w4.heap.size w4 wx) (fun _ c _ => (lvsL v').length - (intOf c).toNat)
          case atStart => exact ⟨0, bs, by omega, by go_num, rfl, (by unfold Hid; rw [stM_zero]; exact ByteArray.append_empty.symm), (by have := hsz.out; omega), Below.refl _ _⟩
          case round =>
            obtain ⟨n, t, hn, rfl, rfl, ht, htz, hbx⟩ := hrel
            by_cases hln : n < (lvsL v').length
            · obtain ⟨bl5, off5, lz, hx5, hbl5, hA, hc5⟩ := (A4.out.below hbx).int hln
              have hl := lvs_i64 v' lz (List.mem_of_getElem? hA)
              have hl1 := lvs_one (List.mem_of_getElem? hA)
              have hln' : (n : Int) < ((lvsL v').length : Int) := by omega
              have hn0 : (0 : Int) ≤ (n : Int) := by omega
              have hlvn := lvsL_len v'
              have k1 : (⟨#[44]⟩ : ByteArray).size = 1 := rfl
              have g1 : ¬ 9223372036854775807 < t.size + (⟨#[44]⟩ : ByteArray).size := by rw [k1]; omega
              have g2 : ¬ 9223372036854775807 < (t ++ ⟨#[44]⟩).size + (numZ lz).size := by rw [ByteArray.size_append, k1]; omega
              have g3 : ¬ 9223372036854775807 < t.size + 1 := by omega
              have g4 : ¬ 9223372036854775807 < t.size + 1 + (numZ lz).size := by omega
              have g5 : ¬ 9223372036854775807 < t.size + (numZ lz).size := by omega
              have hst := Lib.hid (stM_size v' (n + 1))
              clear k1
              have hx5h := Lib.hid hx5
              replace hl1 := Lib.hid hl1
              clear hx5
              rw [hx5h.out]
              rcases Nat.eq_zero_or_pos n with h0 | h0
              · have hnx : Hid (t ++ numZ lz = bs ++ stM v' (n + 1)) := by
                  unfold Hid
                  rw [ht.out]
                  subst h0
                  rw [stM_zero, stM_first hA]
                  congr 1 <;> exact ByteArray.append_empty
                have hgt : ¬ ((0 : Int) < (n : Int)) := by omega
                replace hA := Lib.hid hA
                replace h0 := Lib.hid h0
                go_wp2_with fail
                refine (l1Num_any 8 lz _ (by omega) (by omega) (by omega)).mono ?_
                rintro e w6 ⟨rfl, hb6⟩
                go_wp2
                go_roundw
                case rel => exact ⟨n + 1, _, by omega, by go_num, rfl, hnx.out, (by rw [hnx.out, ByteArray.size_append]; have := hst.out; have := hsz.out; omega), (by repeat (first | exact Below.refl _ _ | assumption | refine Below.drew ?_ | refine below_drewN ?_ _ | refine Below.alloc' ?_ _ | (refine Below.setCell ?_ (by first | omega | (simp; done) | (simp; omega) | exact Below.size (by assumption) | exact Nat.le_trans (Below.size (by assumption)) (by simp)) _) | (refine Below.via' ?_ (by assumption)) | (refine Below.alloc ?_ (by first | omega | (simp; done) | (simp; omega) | exact Below.size (by assumption) | exact Nat.le_trans (Below.size (by assumption)) (by simp)) _) | (refine Below.via ?_ (by assumption) (by first | omega | (simp; done) | (simp; omega) | exact Below.size (by assumption) | exact Nat.le_trans (Below.size (by assumption)) (by simp)))))⟩
                case measure => simp [intOf]; omega
              · have hnx : Hid (t ++ ⟨#[44]⟩ ++ numZ lz = bs ++ stM v' (n + 1)) := by
                  unfold Hid
                  rw [ht.out, stM_next h0 hA]
                  simp only [ByteArray.append_assoc]
                have hgt : (0 : Int) < (n : Int) := by omega
                replace hA := Lib.hid hA
                go_wp2_with fail
                refine (l1Num_any 8 lz _ (by omega) (by omega) (by omega)).mono ?_
                rintro e w6 ⟨rfl, hb6⟩
                go_wp2
                go_roundw
                case rel => exact ⟨n + 1, _, by omega, by go_num, rfl, hnx.out, (by rw [hnx.out, ByteArray.size_append]; have := hst.out; have := hsz.out; omega), (by repeat (first | exact Below.refl _ _ | assumption | refine Below.drew ?_ | refine below_drewN ?_ _ | refine Below.alloc' ?_ _ | (refine Below.setCell ?_ (by first | omega | (simp; done) | (simp; omega) | exact Below.size (by assumption) | exact Nat.le_trans (Below.size (by assumption)) (by simp)) _) | (refine Below.via' ?_ (by assumption)) | (refine Below.alloc ?_ (by first | omega | (simp; done) | (simp; omega) | exact Below.size (by assumption) | exact Nat.le_trans (Below.size (by assumption)) (by simp)) _) | (refine Below.via ?_ (by assumption) (by first | omega | (simp; done) | (simp; omega) | exact Below.size (by assumption) | exact Nat.le_trans (Below.size (by assumption)) (by simp)))))⟩
                case measure => simp [intOf]; omega
            · have hmm : n = (lvsL v').length := by omega
              have hfin : Hid (t = oK S l F W m (i + 1)) := by
                unfold Hid
                rw [ht.out, hmm, stM_all, hbs.out]
                exact (by rw [hok.out, hpa.out]; unfold paT; simp only [ByteArray.append_assoc])
              have hfl := Lib.hid (show decide ((cwU S W (i + 1)).length = 0) = false from decide_eq_false (by rw [hsel.out]; simp))
              replace hmm := Lib.hid hmm
              have hln' : ¬ (n : Int) < ((lvsL v').length : Int) := by omega
              go_wp2
              go_roundw
              case rel =>
                first
                  | exact ⟨i + 1, by omega, by go_num, by rw [hfin.out], by rw [hfl.out], Below.via' hB4 hbx⟩
                  | (refine ⟨_, _, _, _, _, _, _, ⟨i + 1, by omega, ?_, ?_, ?_, Below.via' hB4 hbx⟩, rfl, rfl, rfl, rfl, rfl, rfl, rfl⟩ <;> first | (rw [hfin.out]; done) | (go_num; done) | (simp [hsel.out]; done))
              case measure => simp [intOf]; omega
    · have hij : i = S.length := by have := hlW.out; omega
      have hv := Lib.hid (show oK S l F W m i = ttT S l F W m by rw [hij]; exact oK_all)
      have hi' : ¬ (i : Int) < (W.length : Int) := by omega
      replace hij := Lib.hid hij
      go_wp2
      go_ret
      exact ⟨by first | rfl | (rw [hv.out]; rfl) | (rw [hv.out, hmq.out]; rfl) | (rw [hv.out]; first | rfl | (rw [← hmq.out]; rfl)), hBr⟩
set_option maxHeartbeats 8000000 in
theorem nt10 (y x z : Option Addr) (c1 c2 c3 : Nat) (P : List Int) (S : List (ByteArray × Int)) (l : Int) (F W : List Int) (m : Int) (w : World) (htg : TgP P S l F W m) (hS : SIn w y c1 S) (hT : TIn w x z F W) (hm : Hid (m ≠ -1)) (hF0 : Hid (F.length = 0)) :
    Calls Tryd.prog 21 #[.slice y S.length c1, .agg #[.int .i64 l, .slice x F.length c2, .slice z W.length c3, .int .i64 m]] w fun e w' => e = .returned (.string (ttT S l F W m)) ∧ Below w.heap.size w w' := by
  have hSh := Lib.hid hS
  have hFh := Lib.hid hT.1
  have hWh := Lib.hid hT.2
  have hth := Lib.hid htg
  have hlv := tg_lv htg
  have h6 := (schB_len htg.s).2
  have hm1 := htg.m1
  have hm0 := htg.m0
  have hlW := Lib.hid (tw_len htg.w)
  have hz2 := oK_size htg (i := 0) (by omega)
  rw [oK_zero] at hz2
  have hnz := nsK_size htg.s htg.r F.length
  rw [nsK_all] at hnz
  have hnum := numZ_2 hlv.1 (by omega)
  clear hS hT htg
  have q0 := Lib.hid (TQ.new w l x F.length c2 z W.length c3 m 37)
  have hbA : Below w.heap.size w (w.alloc (.cells #[.int .i64 l, .slice x F.length c2, .slice z W.length c3, .int .i64 m] 37)) := (by repeat (first | exact Below.refl _ _ | assumption | refine Below.drew ?_ | refine below_drewN ?_ _ | refine Below.alloc' ?_ _ | (refine Below.setCell ?_ (by first | omega | (simp; done) | (simp; omega) | exact Below.size (by assumption) | exact Nat.le_trans (Below.size (by assumption)) (by simp)) _) | (refine Below.via' ?_ (by assumption)) | (refine Below.alloc ?_ (by first | omega | (simp; done) | (simp; omega) | exact Below.size (by assumption) | exact Nat.le_trans (Below.size (by assumption)) (by simp)) _) | (refine Below.via ?_ (by assumption) (by first | omega | (simp; done) | (simp; omega) | exact Below.size (by assumption) | exact Nat.le_trans (Below.size (by assumption)) (by simp)))))
  have hft : ¬ (0 : Int) < (F.length : Int) := by have := hF0.out; omega
  obtain ⟨q, rfl⟩ := Int.eq_ofNat_of_zero_le (show 0 ≤ m by have := hm.out; omega)
  obtain ⟨b9, o9, nm, lv9, rfl, hb9, hSq, hk0, hk1⟩ := hSh.out.rd.var (i := q) (by omega)
  have hnq := naA_at hSq
  have hqt : ((q : Nat) : Int).toNat = q := Int.toNat_natCast q
  have hq0 : (0 : Int) ≤ (q : Int) := by omega
  have hq1 : (q : Int) < (S.length : Int) := by omega
  have hns9 := name_size hth.out.s hSq
  have k7 : (⟨#[32, 108, 101, 118, 101, 108, 32]⟩ : ByteArray).size = 7 := rfl
  have k4 : (⟨#[115, 117, 109, 32]⟩ : ByteArray).size = 4 := rfl
  have a0 : ¬ 9223372036854775807 < (⟨#[115, 117, 109, 32]⟩ : ByteArray).size + nm.size := by rw [k4]; omega
  have a0' : ¬ 9223372036854775807 < 4 + nm.size := by omega
  have a1 : ¬ 9223372036854775807 < (⟨#[32, 108, 101, 118, 101, 108, 32]⟩ : ByteArray).size + (numZ l).size := by rw [k7]; omega
  have a1' : ¬ 9223372036854775807 < 7 + (numZ l).size := by omega
  have a2 : ¬ 9223372036854775807 < (⟨#[115, 117, 109, 32]⟩ ++ nm : ByteArray).size + (⟨#[32, 108, 101, 118, 101, 108, 32]⟩ ++ numZ l : ByteArray).size := by simp only [ByteArray.size_append, k7, k4]; omega
  have a2' : ¬ 9223372036854775807 < 4 + nm.size + (7 + (numZ l).size) := by omega
  have ho1 : ((⟨#[115, 117, 109, 32]⟩ : ByteArray) ++ nm) ++ (⟨#[32, 108, 101, 118, 101, 108, 32]⟩ ++ numZ l) = jnS 32 (tw1 S l (q : Int)) := by rw [o0_yes (S := S) hm.out (by rw [hqt]; exact hnq)]; exact o1_eq
  replace ho1 := Lib.hid ho1
  replace hSq := Lib.hid hSq
  replace hnq := Lib.hid hnq
  replace hqt := Lib.hid hqt
  clear k7 k4
  obtain ⟨t0a, t0b, t0c, t0d, t0e⟩ := q0.out
  go_enter Tryd.func21, Tryd.ntmps21
  go_wp2_with fail
  refine (l1Num_any 30 l _ hlv.1 (by omega) (by omega)).mono ?_
  rintro e w1 ⟨rfl, hb1⟩
  have hB1 := Below.via' hbA hb1
  have tq1 := Lib.hid (q0.out.below hb1)
  clear q0 t0a t0b t0c t0d t0e
  obtain ⟨m, hmq⟩ : ∃ m : Int, m = (q : Int) := ⟨_, rfl⟩
  rw [← hmq] at tq1 hth ho1 hz2 ⊢
  replace hmq := Lib.hid hmq
  obtain ⟨ta, tb, tc, td, te⟩ := tq1.out
  have ho2 := Lib.hid (show jnS 32 (tw1 S l m) = jnS 32 (tw2 S l F m) by rw [tw2_no hF0.out])
  go_upto_region 7 with fail
  rw [ho1.out, ho2.out]
  obtain ⟨w2, hw2⟩ : ∃ w2, w2 = w1 := ⟨_, rfl⟩
  rw [← hw2] at tq1 hB1 ⊢
  have tq2 := tq1
  have hB2 := hB1
  clear ta tb tc td te tq1 hw2 hb1
  obtain ⟨ta, tb, tc, td, te⟩ := tq2.out
  go_wp2
  go_loopw [5, 6, 41] (fun q f c wr => ∃ i : Nat, i ≤ W.length ∧ c = .int .i64 i ∧ q = .string (oK S l F W m i) ∧ f = .bool (decide ((cwU S W i).length = 0)) ∧ Below w2.heap.size w2 wr) (fun _ _ c _ => W.length - (intOf c).toNat)
  case atStart => exact ⟨0, by omega, by go_num, by rw [oK_zero], rfl, Below.refl _ _⟩
  case round =>
    obtain ⟨i, hi, rfl, rfl, rfl, hb⟩ := hrel
    have hBr := Below.via' hB2 hb
    by_cases hlt : i < W.length
    · obtain ⟨b1, o1, v', rfl, hb1, hWi, hc0⟩ := (hWh.out.below hBr).2.2.int hlt
      obtain ⟨nm', lv', hSi, l1, l2, x0, x1, x255⟩ := tw_get hth.out.s hth.out.w hWi
      have hiS : i < S.length := (List.getElem?_eq_some_iff.1 hSi).1
      obtain ⟨b2, o2, nm, lv, hy2, hb2, hSi2, hc1, hc2⟩ := (hSh.out.rd.below hBr).var hiS
      obtain ⟨rfl, rfl⟩ : nm = nm' ∧ lv = lv' := by
        have := Option.some.inj (hSi2.symm.trans hSi)
        injection this with a b
        exact ⟨a, b⟩
      first | subst hy2 | (injection hy2 with hy3; injection hy3 with hy4 hy5; subst hy4 hy5)
      have hcw := cwB_at hWi
      have hpa := Lib.hid (paS_at hSi hWi)
      have hns := name_size hth.out.s hSi
      have hos := oK_size hth.out (i := i) (by omega)
      have hi' : (i : Int) < (W.length : Int) := by omega
      have hi2 : (i : Int) < (S.length : Int) := by omega
      have hi0 : (0 : Int) ≤ (i : Int) := by omega
      replace hSi := Lib.hid hSi
      replace hSi2 := Lib.hid hSi2
      replace hWi := Lib.hid hWi
      by_cases hv0 : v' = 0
      · have hvb : (v' == 0) = true := by rw [hv0]; rfl
        have hsel := cwU_no (S := S) (hcw.trans (by rw [hv0]; rfl))
        have hok := Lib.hid (oK_same (l := l) (F := F) (m := m) hsel)
        replace hsel := Lib.hid hsel
        replace hv0 := Lib.hid hv0
        replace hcw := Lib.hid hcw
        go_wp2
        go_roundw
        case rel => exact ⟨i + 1, by omega, by go_num, by rw [hok.out], by rw [hsel.out], hb⟩
        case measure => simp [intOf]; omega
      · have hvb : (v' == 0) = false := by rw [beq_eq_false_iff_ne]; exact hv0
        have hsel := Lib.hid (cwU_yes (S := S) (hcw.trans (show (v' != 0) = true by simpa using hv0)))
        have x1' : 1 ≤ v' := by omega
        replace hv0 := Lib.hid hv0
        replace hcw := Lib.hid hcw
        have e1 : (⟨#[32]⟩ : ByteArray).size = 1 := rfl
        have e2 : (⟨#[61]⟩ : ByteArray).size = 1 := rfl
        have e3 : (⟨#[32, 119, 104, 101, 114, 101]⟩ : ByteArray).size = 6 := rfl
        have s1 : ¬ 9223372036854775807 < (⟨#[32]⟩ : ByteArray).size + nm.size := by rw [e1]; omega
        have s1' : ¬ 9223372036854775807 < 1 + nm.size := by omega
        have s2 : ¬ 9223372036854775807 < (⟨#[32]⟩ ++ nm : ByteArray).size + (⟨#[61]⟩ : ByteArray).size := by rw [ByteArray.size_append, e1, e2]; omega
        have s2' : ¬ 9223372036854775807 < 1 + nm.size + 1 := by omega
        by_cases hc : (cwU S W i).length = 0
        · have hd : decide ((cwU S W i).length = 0) = true := decide_eq_true hc
          rw [hd]
          have s3 : ¬ 9223372036854775807 < (oK S l F W m i).size + (⟨#[32, 119, 104, 101, 114, 101]⟩ : ByteArray).size := by rw [e3]; omega
          have s3' : ¬ 9223372036854775807 < (oK S l F W m i).size + 6 := by omega
          have s4 : ¬ 9223372036854775807 < (oK S l F W m i ++ ⟨#[32, 119, 104, 101, 114, 101]⟩).size + ((⟨#[32]⟩ ++ nm) ++ ⟨#[61]⟩ : ByteArray).size := by simp only [ByteArray.size_append, e1, e2, e3]; omega
          have s4' : ¬ 9223372036854775807 < (oK S l F W m i).size + 6 + (1 + nm.size + 1) := by omega
          have hok := Lib.hid (oK_first (l := l) (F := F) (m := m) hc hsel.out)
          replace hc := Lib.hid hc
          replace hd := Lib.hid hd
          clear e1 e2 e3
          skip
          go_wp2_with fail
          refine (eLevels_any _ _ (by omega) x255).mono ?_
          rintro e w4 ⟨u4, rfl, ho4, hb4⟩
          obtain ⟨x4, n4, rfl, -, -⟩ := (OwR.of ho4).form
          have A4 := Lib.hid (Rd.of_own ho4)
          have hB4 : Below w2.heap.size w2 w4 := Below.via' hb hb4
          clear ho4 hb4
          have hsz := Lib.hid (show ((oK S l F W m i ++ ⟨#[32, 119, 104, 101, 114, 101]⟩) ++ ((⟨#[32]⟩ ++ nm) ++ ⟨#[61]⟩)).size ≤ 1000 from by simp only [ByteArray.size_append]; have e1 : (⟨#[32]⟩ : ByteArray).size = 1 := rfl; have e2 : (⟨#[61]⟩ : ByteArray).size = 1 := rfl; have e3 : (⟨#[32, 119, 104, 101, 114, 101]⟩ : ByteArray).size = 6 := rfl; omega)
          obtain ⟨bs, hbs⟩ : ∃ bs : ByteArray, bs = (oK S l F W m i ++ ⟨#[32, 119, 104, 101, 114, 101]⟩) ++ ((⟨#[32]⟩ ++ nm) ++ ⟨#[61]⟩) := ⟨_, rfl⟩
          rw [← hbs] at hsz ⊢
          replace hbs := Lib.hid hbs
          go_wp2
          go_loopw [5, 63] (fun q c wx => ∃ (n : Nat) (t : ByteArray), n ≤ (lvsL v').length ∧ c = .int .i64 n ∧ q = .string t ∧ Hid (t = bs ++ stM v' n) ∧ t.size ≤ 1100 ∧ Below w4.heap.size w4 wx) (fun _ c _ => (lvsL v').length - (intOf c).toNat)
          case atStart => exact ⟨0, bs, by omega, by go_num, rfl, (by unfold Hid; rw [stM_zero]; exact ByteArray.append_empty.symm), (by have := hsz.out; omega), Below.refl _ _⟩
          case round =>
            obtain ⟨n, t, hn, rfl, rfl, ht, htz, hbx⟩ := hrel
            by_cases hln : n < (lvsL v').length
            · obtain ⟨bl5, off5, lz, hx5, hbl5, hA, hc5⟩ := (A4.out.below hbx).int hln
              have hl := lvs_i64 v' lz (List.mem_of_getElem? hA)
              have hl1 := lvs_one (List.mem_of_getElem? hA)
              have hln' : (n : Int) < ((lvsL v').length : Int) := by omega
              have hn0 : (0 : Int) ≤ (n : Int) := by omega
              have hlvn := lvsL_len v'
              have k1 : (⟨#[44]⟩ : ByteArray).size = 1 := rfl
              have g1 : ¬ 9223372036854775807 < t.size + (⟨#[44]⟩ : ByteArray).size := by rw [k1]; omega
              have g2 : ¬ 9223372036854775807 < (t ++ ⟨#[44]⟩).size + (numZ lz).size := by rw [ByteArray.size_append, k1]; omega
              have g3 : ¬ 9223372036854775807 < t.size + 1 := by omega
              have g4 : ¬ 9223372036854775807 < t.size + 1 + (numZ lz).size := by omega
              have g5 : ¬ 9223372036854775807 < t.size + (numZ lz).size := by omega
              have hst := Lib.hid (stM_size v' (n + 1))
              clear k1
              have hx5h := Lib.hid hx5
              replace hl1 := Lib.hid hl1
              clear hx5
              rw [hx5h.out]
              rcases Nat.eq_zero_or_pos n with h0 | h0
              · have hnx : Hid (t ++ numZ lz = bs ++ stM v' (n + 1)) := by
                  unfold Hid
                  rw [ht.out]
                  subst h0
                  rw [stM_zero, stM_first hA]
                  congr 1 <;> exact ByteArray.append_empty
                have hgt : ¬ ((0 : Int) < (n : Int)) := by omega
                replace hA := Lib.hid hA
                replace h0 := Lib.hid h0
                go_wp2_with fail
                refine (l1Num_any 8 lz _ (by omega) (by omega) (by omega)).mono ?_
                rintro e w6 ⟨rfl, hb6⟩
                go_wp2
                go_roundw
                case rel => exact ⟨n + 1, _, by omega, by go_num, rfl, hnx.out, (by rw [hnx.out, ByteArray.size_append]; have := hst.out; have := hsz.out; omega), (by repeat (first | exact Below.refl _ _ | assumption | refine Below.drew ?_ | refine below_drewN ?_ _ | refine Below.alloc' ?_ _ | (refine Below.setCell ?_ (by first | omega | (simp; done) | (simp; omega) | exact Below.size (by assumption) | exact Nat.le_trans (Below.size (by assumption)) (by simp)) _) | (refine Below.via' ?_ (by assumption)) | (refine Below.alloc ?_ (by first | omega | (simp; done) | (simp; omega) | exact Below.size (by assumption) | exact Nat.le_trans (Below.size (by assumption)) (by simp)) _) | (refine Below.via ?_ (by assumption) (by first | omega | (simp; done) | (simp; omega) | exact Below.size (by assumption) | exact Nat.le_trans (Below.size (by assumption)) (by simp)))))⟩
                case measure => simp [intOf]; omega
              · have hnx : Hid (t ++ ⟨#[44]⟩ ++ numZ lz = bs ++ stM v' (n + 1)) := by
                  unfold Hid
                  rw [ht.out, stM_next h0 hA]
                  simp only [ByteArray.append_assoc]
                have hgt : (0 : Int) < (n : Int) := by omega
                replace hA := Lib.hid hA
                go_wp2_with fail
                refine (l1Num_any 8 lz _ (by omega) (by omega) (by omega)).mono ?_
                rintro e w6 ⟨rfl, hb6⟩
                go_wp2
                go_roundw
                case rel => exact ⟨n + 1, _, by omega, by go_num, rfl, hnx.out, (by rw [hnx.out, ByteArray.size_append]; have := hst.out; have := hsz.out; omega), (by repeat (first | exact Below.refl _ _ | assumption | refine Below.drew ?_ | refine below_drewN ?_ _ | refine Below.alloc' ?_ _ | (refine Below.setCell ?_ (by first | omega | (simp; done) | (simp; omega) | exact Below.size (by assumption) | exact Nat.le_trans (Below.size (by assumption)) (by simp)) _) | (refine Below.via' ?_ (by assumption)) | (refine Below.alloc ?_ (by first | omega | (simp; done) | (simp; omega) | exact Below.size (by assumption) | exact Nat.le_trans (Below.size (by assumption)) (by simp)) _) | (refine Below.via ?_ (by assumption) (by first | omega | (simp; done) | (simp; omega) | exact Below.size (by assumption) | exact Nat.le_trans (Below.size (by assumption)) (by simp)))))⟩
                case measure => simp [intOf]; omega
            · have hmm : n = (lvsL v').length := by omega
              have hfin : Hid (t = oK S l F W m (i + 1)) := by
                unfold Hid
                rw [ht.out, hmm, stM_all, hbs.out]
                exact (by rw [hok.out, hpa.out]; unfold paT; rw [show (⟨#[32, 119, 104, 101, 114, 101]⟩ : ByteArray) = ⟨#[32]⟩ ++ wWhere by decide]; simp only [ByteArray.append_assoc])
              have hfl := Lib.hid (show decide ((cwU S W (i + 1)).length = 0) = false from decide_eq_false (by rw [hsel.out]; simp))
              replace hmm := Lib.hid hmm
              have hln' : ¬ (n : Int) < ((lvsL v').length : Int) := by omega
              go_wp2
              go_roundw
              case rel =>
                first
                  | exact ⟨i + 1, by omega, by go_num, by rw [hfin.out], by rw [hfl.out], Below.via' hB4 hbx⟩
                  | (refine ⟨_, _, _, _, _, _, _, ⟨i + 1, by omega, ?_, ?_, ?_, Below.via' hB4 hbx⟩, rfl, rfl, rfl, rfl, rfl, rfl, rfl⟩ <;> first | (rw [hfin.out]; done) | (go_num; done) | (simp [hsel.out]; done))
              case measure => simp [intOf]; omega
        · have hd : decide ((cwU S W i).length = 0) = false := decide_eq_false hc
          rw [hd]
          have s4 : ¬ 9223372036854775807 < (oK S l F W m i).size + ((⟨#[32]⟩ ++ nm) ++ ⟨#[61]⟩ : ByteArray).size := by simp only [ByteArray.size_append, e1, e2]; omega
          have s4' : ¬ 9223372036854775807 < (oK S l F W m i).size + (1 + nm.size + 1) := by omega
          have hok := Lib.hid (oK_next (l := l) (F := F) (m := m) hc hsel.out)
          replace hc := Lib.hid hc
          replace hd := Lib.hid hd
          clear e1 e2 e3
          go_wp2_with fail
          refine (eLevels_any _ _ (by omega) x255).mono ?_
          rintro e w4 ⟨u4, rfl, ho4, hb4⟩
          obtain ⟨x4, n4, rfl, -, -⟩ := (OwR.of ho4).form
          have A4 := Lib.hid (Rd.of_own ho4)
          have hB4 : Below w2.heap.size w2 w4 := Below.via' hb hb4
          clear ho4 hb4
          have hsz := Lib.hid (show (oK S l F W m i ++ ((⟨#[32]⟩ ++ nm) ++ ⟨#[61]⟩)).size ≤ 1000 from by simp only [ByteArray.size_append]; have e1 : (⟨#[32]⟩ : ByteArray).size = 1 := rfl; have e2 : (⟨#[61]⟩ : ByteArray).size = 1 := rfl; have e3 : (⟨#[32, 119, 104, 101, 114, 101]⟩ : ByteArray).size = 6 := rfl; omega)
          obtain ⟨bs, hbs⟩ : ∃ bs : ByteArray, bs = oK S l F W m i ++ ((⟨#[32]⟩ ++ nm) ++ ⟨#[61]⟩) := ⟨_, rfl⟩
          rw [← hbs] at hsz ⊢
          replace hbs := Lib.hid hbs
          go_wp2
          go_loopw [5, 63] (fun q c wx => ∃ (n : Nat) (t : ByteArray), n ≤ (lvsL v').length ∧ c = .int .i64 n ∧ q = .string t ∧ Hid (t = bs ++ stM v' n) ∧ t.size ≤ 1100 ∧ Below w4.heap.size w4 wx) (fun _ c _ => (lvsL v').length - (intOf c).toNat)
          case atStart => exact ⟨0, bs, by omega, by go_num, rfl, (by unfold Hid; rw [stM_zero]; exact ByteArray.append_empty.symm), (by have := hsz.out; omega), Below.refl _ _⟩
          case round =>
            obtain ⟨n, t, hn, rfl, rfl, ht, htz, hbx⟩ := hrel
            by_cases hln : n < (lvsL v').length
            · obtain ⟨bl5, off5, lz, hx5, hbl5, hA, hc5⟩ := (A4.out.below hbx).int hln
              have hl := lvs_i64 v' lz (List.mem_of_getElem? hA)
              have hl1 := lvs_one (List.mem_of_getElem? hA)
              have hln' : (n : Int) < ((lvsL v').length : Int) := by omega
              have hn0 : (0 : Int) ≤ (n : Int) := by omega
              have hlvn := lvsL_len v'
              have k1 : (⟨#[44]⟩ : ByteArray).size = 1 := rfl
              have g1 : ¬ 9223372036854775807 < t.size + (⟨#[44]⟩ : ByteArray).size := by rw [k1]; omega
              have g2 : ¬ 9223372036854775807 < (t ++ ⟨#[44]⟩).size + (numZ lz).size := by rw [ByteArray.size_append, k1]; omega
              have g3 : ¬ 9223372036854775807 < t.size + 1 := by omega
              have g4 : ¬ 9223372036854775807 < t.size + 1 + (numZ lz).size := by omega
              have g5 : ¬ 9223372036854775807 < t.size + (numZ lz).size := by omega
              have hst := Lib.hid (stM_size v' (n + 1))
              clear k1
              have hx5h := Lib.hid hx5
              replace hl1 := Lib.hid hl1
              clear hx5
              rw [hx5h.out]
              rcases Nat.eq_zero_or_pos n with h0 | h0
              · have hnx : Hid (t ++ numZ lz = bs ++ stM v' (n + 1)) := by
                  unfold Hid
                  rw [ht.out]
                  subst h0
                  rw [stM_zero, stM_first hA]
                  congr 1 <;> exact ByteArray.append_empty
                have hgt : ¬ ((0 : Int) < (n : Int)) := by omega
                replace hA := Lib.hid hA
                replace h0 := Lib.hid h0
                go_wp2_with fail
                refine (l1Num_any 8 lz _ (by omega) (by omega) (by omega)).mono ?_
                rintro e w6 ⟨rfl, hb6⟩
                go_wp2
                go_roundw
                case rel => exact ⟨n + 1, _, by omega, by go_num, rfl, hnx.out, (by rw [hnx.out, ByteArray.size_append]; have := hst.out; have := hsz.out; omega), (by repeat (first | exact Below.refl _ _ | assumption | refine Below.drew ?_ | refine below_drewN ?_ _ | refine Below.alloc' ?_ _ | (refine Below.setCell ?_ (by first | omega | (simp; done) | (simp; omega) | exact Below.size (by assumption) | exact Nat.le_trans (Below.size (by assumption)) (by simp)) _) | (refine Below.via' ?_ (by assumption)) | (refine Below.alloc ?_ (by first | omega | (simp; done) | (simp; omega) | exact Below.size (by assumption) | exact Nat.le_trans (Below.size (by assumption)) (by simp)) _) | (refine Below.via ?_ (by assumption) (by first | omega | (simp; done) | (simp; omega) | exact Below.size (by assumption) | exact Nat.le_trans (Below.size (by assumption)) (by simp)))))⟩
                case measure => simp [intOf]; omega
              · have hnx : Hid (t ++ ⟨#[44]⟩ ++ numZ lz = bs ++ stM v' (n + 1)) := by
                  unfold Hid
                  rw [ht.out, stM_next h0 hA]
                  simp only [ByteArray.append_assoc]
                have hgt : (0 : Int) < (n : Int) := by omega
                replace hA := Lib.hid hA
                go_wp2_with fail
                refine (l1Num_any 8 lz _ (by omega) (by omega) (by omega)).mono ?_
                rintro e w6 ⟨rfl, hb6⟩
                go_wp2
                go_roundw
                case rel => exact ⟨n + 1, _, by omega, by go_num, rfl, hnx.out, (by rw [hnx.out, ByteArray.size_append]; have := hst.out; have := hsz.out; omega), (by repeat (first | exact Below.refl _ _ | assumption | refine Below.drew ?_ | refine below_drewN ?_ _ | refine Below.alloc' ?_ _ | (refine Below.setCell ?_ (by first | omega | (simp; done) | (simp; omega) | exact Below.size (by assumption) | exact Nat.le_trans (Below.size (by assumption)) (by simp)) _) | (refine Below.via' ?_ (by assumption)) | (refine Below.alloc ?_ (by first | omega | (simp; done) | (simp; omega) | exact Below.size (by assumption) | exact Nat.le_trans (Below.size (by assumption)) (by simp)) _) | (refine Below.via ?_ (by assumption) (by first | omega | (simp; done) | (simp; omega) | exact Below.size (by assumption) | exact Nat.le_trans (Below.size (by assumption)) (by simp)))))⟩
                case measure => simp [intOf]; omega
            · have hmm : n = (lvsL v').length := by omega
              have hfin : Hid (t = oK S l F W m (i + 1)) := by
                unfold Hid
                rw [ht.out, hmm, stM_all, hbs.out]
                exact (by rw [hok.out, hpa.out]; unfold paT; simp only [ByteArray.append_assoc])
              have hfl := Lib.hid (show decide ((cwU S W (i + 1)).length = 0) = false from decide_eq_false (by rw [hsel.out]; simp))
              replace hmm := Lib.hid hmm
              have hln' : ¬ (n : Int) < ((lvsL v').length : Int) := by omega
              go_wp2
              go_roundw
              case rel =>
                first
                  | exact ⟨i + 1, by omega, by go_num, by rw [hfin.out], by rw [hfl.out], Below.via' hB4 hbx⟩
                  | (refine ⟨_, _, _, _, _, _, _, ⟨i + 1, by omega, ?_, ?_, ?_, Below.via' hB4 hbx⟩, rfl, rfl, rfl, rfl, rfl, rfl, rfl⟩ <;> first | (rw [hfin.out]; done) | (go_num; done) | (simp [hsel.out]; done))
              case measure => simp [intOf]; omega
    · have hij : i = S.length := by have := hlW.out; omega
      have hv := Lib.hid (show oK S l F W m i = ttT S l F W m by rw [hij]; exact oK_all)
      have hi' : ¬ (i : Int) < (W.length : Int) := by omega
      replace hij := Lib.hid hij
      go_wp2
      go_ret
      exact ⟨by first | rfl | (rw [hv.out]; rfl) | (rw [hv.out, hmq.out]; rfl) | (rw [hv.out]; first | rfl | (rw [← hmq.out]; rfl)), hBr⟩
set_option maxHeartbeats 8000000 in
theorem nt11 (y x z : Option Addr) (c1 c2 c3 : Nat) (P : List Int) (S : List (ByteArray × Int)) (l : Int) (F W : List Int) (m : Int) (w : World) (htg : TgP P S l F W m) (hS : SIn w y c1 S) (hT : TIn w x z F W) (hm : Hid (m ≠ -1)) (hF0 : Hid (F.length ≠ 0)) :
    Calls Tryd.prog 21 #[.slice y S.length c1, .agg #[.int .i64 l, .slice x F.length c2, .slice z W.length c3, .int .i64 m]] w fun e w' => e = .returned (.string (ttT S l F W m)) ∧ Below w.heap.size w w' := by
  have hSh := Lib.hid hS
  have hFh := Lib.hid hT.1
  have hWh := Lib.hid hT.2
  have hth := Lib.hid htg
  have hlv := tg_lv htg
  have h6 := (schB_len htg.s).2
  have hm1 := htg.m1
  have hm0 := htg.m0
  have hlW := Lib.hid (tw_len htg.w)
  have hz2 := oK_size htg (i := 0) (by omega)
  rw [oK_zero] at hz2
  have hnz := nsK_size htg.s htg.r F.length
  rw [nsK_all] at hnz
  have hnum := numZ_2 hlv.1 (by omega)
  clear hS hT htg
  have q0 := Lib.hid (TQ.new w l x F.length c2 z W.length c3 m 37)
  have hbA : Below w.heap.size w (w.alloc (.cells #[.int .i64 l, .slice x F.length c2, .slice z W.length c3, .int .i64 m] 37)) := (by repeat (first | exact Below.refl _ _ | assumption | refine Below.drew ?_ | refine below_drewN ?_ _ | refine Below.alloc' ?_ _ | (refine Below.setCell ?_ (by first | omega | (simp; done) | (simp; omega) | exact Below.size (by assumption) | exact Nat.le_trans (Below.size (by assumption)) (by simp)) _) | (refine Below.via' ?_ (by assumption)) | (refine Below.alloc ?_ (by first | omega | (simp; done) | (simp; omega) | exact Below.size (by assumption) | exact Nat.le_trans (Below.size (by assumption)) (by simp)) _) | (refine Below.via ?_ (by assumption) (by first | omega | (simp; done) | (simp; omega) | exact Below.size (by assumption) | exact Nat.le_trans (Below.size (by assumption)) (by simp)))))
  have hft : (0 : Int) < (F.length : Int) := by have := hF0.out; omega
  obtain ⟨q, rfl⟩ := Int.eq_ofNat_of_zero_le (show 0 ≤ m by have := hm.out; omega)
  obtain ⟨b9, o9, nm, lv9, rfl, hb9, hSq, hk0, hk1⟩ := hSh.out.rd.var (i := q) (by omega)
  have hnq := naA_at hSq
  have hqt : ((q : Nat) : Int).toNat = q := Int.toNat_natCast q
  have hq0 : (0 : Int) ≤ (q : Int) := by omega
  have hq1 : (q : Int) < (S.length : Int) := by omega
  have hns9 := name_size hth.out.s hSq
  have k7 : (⟨#[32, 108, 101, 118, 101, 108, 32]⟩ : ByteArray).size = 7 := rfl
  have k4 : (⟨#[115, 117, 109, 32]⟩ : ByteArray).size = 4 := rfl
  have a0 : ¬ 9223372036854775807 < (⟨#[115, 117, 109, 32]⟩ : ByteArray).size + nm.size := by rw [k4]; omega
  have a0' : ¬ 9223372036854775807 < 4 + nm.size := by omega
  have a1 : ¬ 9223372036854775807 < (⟨#[32, 108, 101, 118, 101, 108, 32]⟩ : ByteArray).size + (numZ l).size := by rw [k7]; omega
  have a1' : ¬ 9223372036854775807 < 7 + (numZ l).size := by omega
  have a2 : ¬ 9223372036854775807 < (⟨#[115, 117, 109, 32]⟩ ++ nm : ByteArray).size + (⟨#[32, 108, 101, 118, 101, 108, 32]⟩ ++ numZ l : ByteArray).size := by simp only [ByteArray.size_append, k7, k4]; omega
  have a2' : ¬ 9223372036854775807 < 4 + nm.size + (7 + (numZ l).size) := by omega
  have ho1 : ((⟨#[115, 117, 109, 32]⟩ : ByteArray) ++ nm) ++ (⟨#[32, 108, 101, 118, 101, 108, 32]⟩ ++ numZ l) = jnS 32 (tw1 S l (q : Int)) := by rw [o0_yes (S := S) hm.out (by rw [hqt]; exact hnq)]; exact o1_eq
  replace ho1 := Lib.hid ho1
  replace hSq := Lib.hid hSq
  replace hnq := Lib.hid hnq
  replace hqt := Lib.hid hqt
  clear k7 k4
  obtain ⟨t0a, t0b, t0c, t0d, t0e⟩ := q0.out
  go_enter Tryd.func21, Tryd.ntmps21
  go_wp2_with fail
  refine (l1Num_any 30 l _ hlv.1 (by omega) (by omega)).mono ?_
  rintro e w1 ⟨rfl, hb1⟩
  have hB1 := Below.via' hbA hb1
  have tq1 := Lib.hid (q0.out.below hb1)
  clear q0 t0a t0b t0c t0d t0e
  obtain ⟨m, hmq⟩ : ∃ m : Int, m = (q : Int) := ⟨_, rfl⟩
  rw [← hmq] at tq1 hth ho1 hz2 ⊢
  replace hmq := Lib.hid hmq
  obtain ⟨ta, tb, tc, td, te⟩ := tq1.out
  have ho2 := o2_eq (S := S) (l := l) (m := m) hF0.out
  have hz1 := congrArg ByteArray.size ho2
  have k4 : (⟨#[32, 98, 121, 32]⟩ : ByteArray).size = 4 := rfl
  simp only [ByteArray.size_append, k4] at hz1
  have a3 : ¬ 9223372036854775807 < (⟨#[32, 98, 121, 32]⟩ : ByteArray).size + (jnS 44 (nsL S F)).size := by rw [k4]; omega
  have a3' : ¬ 9223372036854775807 < 4 + (jnS 44 (nsL S F)).size := by omega
  have a4 : ¬ 9223372036854775807 < (jnS 32 (tw1 S l m)).size + (⟨#[32, 98, 121, 32]⟩ ++ jnS 44 (nsL S F) : ByteArray).size := by simp only [ByteArray.size_append, k4]; omega
  have a4' : ¬ 9223372036854775807 < (jnS 32 (tw1 S l m)).size + (4 + (jnS 44 (nsL S F)).size) := by omega
  replace ho2 := Lib.hid ho2
  replace hz1 := Lib.hid hz1
  clear k4
  go_wp2_with fail
  rw [ho1.out]
  refine (nNames_any _ _ _ _ S F _ hth.out.s hth.out.r (hSh.out.below hB1) (hFh.out.below hB1)).mono ?_
  rintro e w2 ⟨rfl, hb2⟩
  have hB2 := Below.via' hB1 hb2
  have tq2 := Lib.hid (tq1.out.below hb2)
  clear ta tb tc td te tq1 hb2
  obtain ⟨ta, tb, tc, td, te⟩ := tq2.out
  go_upto_region 7 with fail
  rw [ho2.out]
  clear ta tb tc td te
  obtain ⟨ta, tb, tc, td, te⟩ := tq2.out
  go_wp2
  go_loopw [5, 6, 41] (fun q f c wr => ∃ i : Nat, i ≤ W.length ∧ c = .int .i64 i ∧ q = .string (oK S l F W m i) ∧ f = .bool (decide ((cwU S W i).length = 0)) ∧ Below w2.heap.size w2 wr) (fun _ _ c _ => W.length - (intOf c).toNat)
  case atStart => exact ⟨0, by omega, by go_num, by rw [oK_zero], rfl, Below.refl _ _⟩
  case round =>
    obtain ⟨i, hi, rfl, rfl, rfl, hb⟩ := hrel
    have hBr := Below.via' hB2 hb
    by_cases hlt : i < W.length
    · obtain ⟨b1, o1, v', rfl, hb1, hWi, hc0⟩ := (hWh.out.below hBr).2.2.int hlt
      obtain ⟨nm', lv', hSi, l1, l2, x0, x1, x255⟩ := tw_get hth.out.s hth.out.w hWi
      have hiS : i < S.length := (List.getElem?_eq_some_iff.1 hSi).1
      obtain ⟨b2, o2, nm, lv, hy2, hb2, hSi2, hc1, hc2⟩ := (hSh.out.rd.below hBr).var hiS
      obtain ⟨rfl, rfl⟩ : nm = nm' ∧ lv = lv' := by
        have := Option.some.inj (hSi2.symm.trans hSi)
        injection this with a b
        exact ⟨a, b⟩
      first | subst hy2 | (injection hy2 with hy3; injection hy3 with hy4 hy5; subst hy4 hy5)
      have hcw := cwB_at hWi
      have hpa := Lib.hid (paS_at hSi hWi)
      have hns := name_size hth.out.s hSi
      have hos := oK_size hth.out (i := i) (by omega)
      have hi' : (i : Int) < (W.length : Int) := by omega
      have hi2 : (i : Int) < (S.length : Int) := by omega
      have hi0 : (0 : Int) ≤ (i : Int) := by omega
      replace hSi := Lib.hid hSi
      replace hSi2 := Lib.hid hSi2
      replace hWi := Lib.hid hWi
      by_cases hv0 : v' = 0
      · have hvb : (v' == 0) = true := by rw [hv0]; rfl
        have hsel := cwU_no (S := S) (hcw.trans (by rw [hv0]; rfl))
        have hok := Lib.hid (oK_same (l := l) (F := F) (m := m) hsel)
        replace hsel := Lib.hid hsel
        replace hv0 := Lib.hid hv0
        replace hcw := Lib.hid hcw
        go_wp2
        go_roundw
        case rel => exact ⟨i + 1, by omega, by go_num, by rw [hok.out], by rw [hsel.out], hb⟩
        case measure => simp [intOf]; omega
      · have hvb : (v' == 0) = false := by rw [beq_eq_false_iff_ne]; exact hv0
        have hsel := Lib.hid (cwU_yes (S := S) (hcw.trans (show (v' != 0) = true by simpa using hv0)))
        have x1' : 1 ≤ v' := by omega
        replace hv0 := Lib.hid hv0
        replace hcw := Lib.hid hcw
        have e1 : (⟨#[32]⟩ : ByteArray).size = 1 := rfl
        have e2 : (⟨#[61]⟩ : ByteArray).size = 1 := rfl
        have e3 : (⟨#[32, 119, 104, 101, 114, 101]⟩ : ByteArray).size = 6 := rfl
        have s1 : ¬ 9223372036854775807 < (⟨#[32]⟩ : ByteArray).size + nm.size := by rw [e1]; omega
        have s1' : ¬ 9223372036854775807 < 1 + nm.size := by omega
        have s2 : ¬ 9223372036854775807 < (⟨#[32]⟩ ++ nm : ByteArray).size + (⟨#[61]⟩ : ByteArray).size := by rw [ByteArray.size_append, e1, e2]; omega
        have s2' : ¬ 9223372036854775807 < 1 + nm.size + 1 := by omega
        by_cases hc : (cwU S W i).length = 0
        · have hd : decide ((cwU S W i).length = 0) = true := decide_eq_true hc
          rw [hd]
          have s3 : ¬ 9223372036854775807 < (oK S l F W m i).size + (⟨#[32, 119, 104, 101, 114, 101]⟩ : ByteArray).size := by rw [e3]; omega
          have s3' : ¬ 9223372036854775807 < (oK S l F W m i).size + 6 := by omega
          have s4 : ¬ 9223372036854775807 < (oK S l F W m i ++ ⟨#[32, 119, 104, 101, 114, 101]⟩).size + ((⟨#[32]⟩ ++ nm) ++ ⟨#[61]⟩ : ByteArray).size := by simp only [ByteArray.size_append, e1, e2, e3]; omega
          have s4' : ¬ 9223372036854775807 < (oK S l F W m i).size + 6 + (1 + nm.size + 1) := by omega
          have hok := Lib.hid (oK_first (l := l) (F := F) (m := m) hc hsel.out)
          replace hc := Lib.hid hc
          replace hd := Lib.hid hd
          clear e1 e2 e3
          skip
          go_wp2_with fail
          refine (eLevels_any _ _ (by omega) x255).mono ?_
          rintro e w4 ⟨u4, rfl, ho4, hb4⟩
          obtain ⟨x4, n4, rfl, -, -⟩ := (OwR.of ho4).form
          have A4 := Lib.hid (Rd.of_own ho4)
          have hB4 : Below w2.heap.size w2 w4 := Below.via' hb hb4
          clear ho4 hb4
          have hsz := Lib.hid (show ((oK S l F W m i ++ ⟨#[32, 119, 104, 101, 114, 101]⟩) ++ ((⟨#[32]⟩ ++ nm) ++ ⟨#[61]⟩)).size ≤ 1000 from by simp only [ByteArray.size_append]; have e1 : (⟨#[32]⟩ : ByteArray).size = 1 := rfl; have e2 : (⟨#[61]⟩ : ByteArray).size = 1 := rfl; have e3 : (⟨#[32, 119, 104, 101, 114, 101]⟩ : ByteArray).size = 6 := rfl; omega)
          obtain ⟨bs, hbs⟩ : ∃ bs : ByteArray, bs = (oK S l F W m i ++ ⟨#[32, 119, 104, 101, 114, 101]⟩) ++ ((⟨#[32]⟩ ++ nm) ++ ⟨#[61]⟩) := ⟨_, rfl⟩
          rw [← hbs] at hsz ⊢
          replace hbs := Lib.hid hbs
          go_wp2
          go_loopw [5, 63] (fun q c wx => ∃ (n : Nat) (t : ByteArray), n ≤ (lvsL v').length ∧ c = .int .i64 n ∧ q = .string t ∧ Hid (t = bs ++ stM v' n) ∧ t.size ≤ 1100 ∧ Below w4.heap.size w4 wx) (fun _ c _ => (lvsL v').length - (intOf c).toNat)
          case atStart => exact ⟨0, bs, by omega, by go_num, rfl, (by unfold Hid; rw [stM_zero]; exact ByteArray.append_empty.symm), (by have := hsz.out; omega), Below.refl _ _⟩
          case round =>
            obtain ⟨n, t, hn, rfl, rfl, ht, htz, hbx⟩ := hrel
            by_cases hln : n < (lvsL v').length
            · obtain ⟨bl5, off5, lz, hx5, hbl5, hA, hc5⟩ := (A4.out.below hbx).int hln
              have hl := lvs_i64 v' lz (List.mem_of_getElem? hA)
              have hl1 := lvs_one (List.mem_of_getElem? hA)
              have hln' : (n : Int) < ((lvsL v').length : Int) := by omega
              have hn0 : (0 : Int) ≤ (n : Int) := by omega
              have hlvn := lvsL_len v'
              have k1 : (⟨#[44]⟩ : ByteArray).size = 1 := rfl
              have g1 : ¬ 9223372036854775807 < t.size + (⟨#[44]⟩ : ByteArray).size := by rw [k1]; omega
              have g2 : ¬ 9223372036854775807 < (t ++ ⟨#[44]⟩).size + (numZ lz).size := by rw [ByteArray.size_append, k1]; omega
              have g3 : ¬ 9223372036854775807 < t.size + 1 := by omega
              have g4 : ¬ 9223372036854775807 < t.size + 1 + (numZ lz).size := by omega
              have g5 : ¬ 9223372036854775807 < t.size + (numZ lz).size := by omega
              have hst := Lib.hid (stM_size v' (n + 1))
              clear k1
              have hx5h := Lib.hid hx5
              replace hl1 := Lib.hid hl1
              clear hx5
              rw [hx5h.out]
              rcases Nat.eq_zero_or_pos n with h0 | h0
              · have hnx : Hid (t ++ numZ lz = bs ++ stM v' (n + 1)) := by
                  unfold Hid
                  rw [ht.out]
                  subst h0
                  rw [stM_zero, stM_first hA]
                  congr 1 <;> exact ByteArray.append_empty
                have hgt : ¬ ((0 : Int) < (n : Int)) := by omega
                replace hA := Lib.hid hA
                replace h0 := Lib.hid h0
                go_wp2_with fail
                refine (l1Num_any 8 lz _ (by omega) (by omega) (by omega)).mono ?_
                rintro e w6 ⟨rfl, hb6⟩
                go_wp2
                go_roundw
                case rel => exact ⟨n + 1, _, by omega, by go_num, rfl, hnx.out, (by rw [hnx.out, ByteArray.size_append]; have := hst.out; have := hsz.out; omega), (by repeat (first | exact Below.refl _ _ | assumption | refine Below.drew ?_ | refine below_drewN ?_ _ | refine Below.alloc' ?_ _ | (refine Below.setCell ?_ (by first | omega | (simp; done) | (simp; omega) | exact Below.size (by assumption) | exact Nat.le_trans (Below.size (by assumption)) (by simp)) _) | (refine Below.via' ?_ (by assumption)) | (refine Below.alloc ?_ (by first | omega | (simp; done) | (simp; omega) | exact Below.size (by assumption) | exact Nat.le_trans (Below.size (by assumption)) (by simp)) _) | (refine Below.via ?_ (by assumption) (by first | omega | (simp; done) | (simp; omega) | exact Below.size (by assumption) | exact Nat.le_trans (Below.size (by assumption)) (by simp)))))⟩
                case measure => simp [intOf]; omega
              · have hnx : Hid (t ++ ⟨#[44]⟩ ++ numZ lz = bs ++ stM v' (n + 1)) := by
                  unfold Hid
                  rw [ht.out, stM_next h0 hA]
                  simp only [ByteArray.append_assoc]
                have hgt : (0 : Int) < (n : Int) := by omega
                replace hA := Lib.hid hA
                go_wp2_with fail
                refine (l1Num_any 8 lz _ (by omega) (by omega) (by omega)).mono ?_
                rintro e w6 ⟨rfl, hb6⟩
                go_wp2
                go_roundw
                case rel => exact ⟨n + 1, _, by omega, by go_num, rfl, hnx.out, (by rw [hnx.out, ByteArray.size_append]; have := hst.out; have := hsz.out; omega), (by repeat (first | exact Below.refl _ _ | assumption | refine Below.drew ?_ | refine below_drewN ?_ _ | refine Below.alloc' ?_ _ | (refine Below.setCell ?_ (by first | omega | (simp; done) | (simp; omega) | exact Below.size (by assumption) | exact Nat.le_trans (Below.size (by assumption)) (by simp)) _) | (refine Below.via' ?_ (by assumption)) | (refine Below.alloc ?_ (by first | omega | (simp; done) | (simp; omega) | exact Below.size (by assumption) | exact Nat.le_trans (Below.size (by assumption)) (by simp)) _) | (refine Below.via ?_ (by assumption) (by first | omega | (simp; done) | (simp; omega) | exact Below.size (by assumption) | exact Nat.le_trans (Below.size (by assumption)) (by simp)))))⟩
                case measure => simp [intOf]; omega
            · have hmm : n = (lvsL v').length := by omega
              have hfin : Hid (t = oK S l F W m (i + 1)) := by
                unfold Hid
                rw [ht.out, hmm, stM_all, hbs.out]
                exact (by rw [hok.out, hpa.out]; unfold paT; rw [show (⟨#[32, 119, 104, 101, 114, 101]⟩ : ByteArray) = ⟨#[32]⟩ ++ wWhere by decide]; simp only [ByteArray.append_assoc])
              have hfl := Lib.hid (show decide ((cwU S W (i + 1)).length = 0) = false from decide_eq_false (by rw [hsel.out]; simp))
              replace hmm := Lib.hid hmm
              have hln' : ¬ (n : Int) < ((lvsL v').length : Int) := by omega
              go_wp2
              go_roundw
              case rel =>
                first
                  | exact ⟨i + 1, by omega, by go_num, by rw [hfin.out], by rw [hfl.out], Below.via' hB4 hbx⟩
                  | (refine ⟨_, _, _, _, _, _, _, ⟨i + 1, by omega, ?_, ?_, ?_, Below.via' hB4 hbx⟩, rfl, rfl, rfl, rfl, rfl, rfl, rfl⟩ <;> first | (rw [hfin.out]; done) | (go_num; done) | (simp [hsel.out]; done))
              case measure => simp [intOf]; omega
        · have hd : decide ((cwU S W i).length = 0) = false := decide_eq_false hc
          rw [hd]
          have s4 : ¬ 9223372036854775807 < (oK S l F W m i).size + ((⟨#[32]⟩ ++ nm) ++ ⟨#[61]⟩ : ByteArray).size := by simp only [ByteArray.size_append, e1, e2]; omega
          have s4' : ¬ 9223372036854775807 < (oK S l F W m i).size + (1 + nm.size + 1) := by omega
          have hok := Lib.hid (oK_next (l := l) (F := F) (m := m) hc hsel.out)
          replace hc := Lib.hid hc
          replace hd := Lib.hid hd
          clear e1 e2 e3
          go_wp2_with fail
          refine (eLevels_any _ _ (by omega) x255).mono ?_
          rintro e w4 ⟨u4, rfl, ho4, hb4⟩
          obtain ⟨x4, n4, rfl, -, -⟩ := (OwR.of ho4).form
          have A4 := Lib.hid (Rd.of_own ho4)
          have hB4 : Below w2.heap.size w2 w4 := Below.via' hb hb4
          clear ho4 hb4
          have hsz := Lib.hid (show (oK S l F W m i ++ ((⟨#[32]⟩ ++ nm) ++ ⟨#[61]⟩)).size ≤ 1000 from by simp only [ByteArray.size_append]; have e1 : (⟨#[32]⟩ : ByteArray).size = 1 := rfl; have e2 : (⟨#[61]⟩ : ByteArray).size = 1 := rfl; have e3 : (⟨#[32, 119, 104, 101, 114, 101]⟩ : ByteArray).size = 6 := rfl; omega)
          obtain ⟨bs, hbs⟩ : ∃ bs : ByteArray, bs = oK S l F W m i ++ ((⟨#[32]⟩ ++ nm) ++ ⟨#[61]⟩) := ⟨_, rfl⟩
          rw [← hbs] at hsz ⊢
          replace hbs := Lib.hid hbs
          go_wp2
          go_loopw [5, 63] (fun q c wx => ∃ (n : Nat) (t : ByteArray), n ≤ (lvsL v').length ∧ c = .int .i64 n ∧ q = .string t ∧ Hid (t = bs ++ stM v' n) ∧ t.size ≤ 1100 ∧ Below w4.heap.size w4 wx) (fun _ c _ => (lvsL v').length - (intOf c).toNat)
          case atStart => exact ⟨0, bs, by omega, by go_num, rfl, (by unfold Hid; rw [stM_zero]; exact ByteArray.append_empty.symm), (by have := hsz.out; omega), Below.refl _ _⟩
          case round =>
            obtain ⟨n, t, hn, rfl, rfl, ht, htz, hbx⟩ := hrel
            by_cases hln : n < (lvsL v').length
            · obtain ⟨bl5, off5, lz, hx5, hbl5, hA, hc5⟩ := (A4.out.below hbx).int hln
              have hl := lvs_i64 v' lz (List.mem_of_getElem? hA)
              have hl1 := lvs_one (List.mem_of_getElem? hA)
              have hln' : (n : Int) < ((lvsL v').length : Int) := by omega
              have hn0 : (0 : Int) ≤ (n : Int) := by omega
              have hlvn := lvsL_len v'
              have k1 : (⟨#[44]⟩ : ByteArray).size = 1 := rfl
              have g1 : ¬ 9223372036854775807 < t.size + (⟨#[44]⟩ : ByteArray).size := by rw [k1]; omega
              have g2 : ¬ 9223372036854775807 < (t ++ ⟨#[44]⟩).size + (numZ lz).size := by rw [ByteArray.size_append, k1]; omega
              have g3 : ¬ 9223372036854775807 < t.size + 1 := by omega
              have g4 : ¬ 9223372036854775807 < t.size + 1 + (numZ lz).size := by omega
              have g5 : ¬ 9223372036854775807 < t.size + (numZ lz).size := by omega
              have hst := Lib.hid (stM_size v' (n + 1))
              clear k1
              have hx5h := Lib.hid hx5
              replace hl1 := Lib.hid hl1
              clear hx5
              rw [hx5h.out]
              rcases Nat.eq_zero_or_pos n with h0 | h0
              · have hnx : Hid (t ++ numZ lz = bs ++ stM v' (n + 1)) := by
                  unfold Hid
                  rw [ht.out]
                  subst h0
                  rw [stM_zero, stM_first hA]
                  congr 1 <;> exact ByteArray.append_empty
                have hgt : ¬ ((0 : Int) < (n : Int)) := by omega
                replace hA := Lib.hid hA
                replace h0 := Lib.hid h0
                go_wp2_with fail
                refine (l1Num_any 8 lz _ (by omega) (by omega) (by omega)).mono ?_
                rintro e w6 ⟨rfl, hb6⟩
                go_wp2
                go_roundw
                case rel => exact ⟨n + 1, _, by omega, by go_num, rfl, hnx.out, (by rw [hnx.out, ByteArray.size_append]; have := hst.out; have := hsz.out; omega), (by repeat (first | exact Below.refl _ _ | assumption | refine Below.drew ?_ | refine below_drewN ?_ _ | refine Below.alloc' ?_ _ | (refine Below.setCell ?_ (by first | omega | (simp; done) | (simp; omega) | exact Below.size (by assumption) | exact Nat.le_trans (Below.size (by assumption)) (by simp)) _) | (refine Below.via' ?_ (by assumption)) | (refine Below.alloc ?_ (by first | omega | (simp; done) | (simp; omega) | exact Below.size (by assumption) | exact Nat.le_trans (Below.size (by assumption)) (by simp)) _) | (refine Below.via ?_ (by assumption) (by first | omega | (simp; done) | (simp; omega) | exact Below.size (by assumption) | exact Nat.le_trans (Below.size (by assumption)) (by simp)))))⟩
                case measure => simp [intOf]; omega
              · have hnx : Hid (t ++ ⟨#[44]⟩ ++ numZ lz = bs ++ stM v' (n + 1)) := by
                  unfold Hid
                  rw [ht.out, stM_next h0 hA]
                  simp only [ByteArray.append_assoc]
                have hgt : (0 : Int) < (n : Int) := by omega
                replace hA := Lib.hid hA
                go_wp2_with fail
                refine (l1Num_any 8 lz _ (by omega) (by omega) (by omega)).mono ?_
                rintro e w6 ⟨rfl, hb6⟩
                go_wp2
                go_roundw
                case rel => exact ⟨n + 1, _, by omega, by go_num, rfl, hnx.out, (by rw [hnx.out, ByteArray.size_append]; have := hst.out; have := hsz.out; omega), (by repeat (first | exact Below.refl _ _ | assumption | refine Below.drew ?_ | refine below_drewN ?_ _ | refine Below.alloc' ?_ _ | (refine Below.setCell ?_ (by first | omega | (simp; done) | (simp; omega) | exact Below.size (by assumption) | exact Nat.le_trans (Below.size (by assumption)) (by simp)) _) | (refine Below.via' ?_ (by assumption)) | (refine Below.alloc ?_ (by first | omega | (simp; done) | (simp; omega) | exact Below.size (by assumption) | exact Nat.le_trans (Below.size (by assumption)) (by simp)) _) | (refine Below.via ?_ (by assumption) (by first | omega | (simp; done) | (simp; omega) | exact Below.size (by assumption) | exact Nat.le_trans (Below.size (by assumption)) (by simp)))))⟩
                case measure => simp [intOf]; omega
            · have hmm : n = (lvsL v').length := by omega
              have hfin : Hid (t = oK S l F W m (i + 1)) := by
                unfold Hid
                rw [ht.out, hmm, stM_all, hbs.out]
                exact (by rw [hok.out, hpa.out]; unfold paT; simp only [ByteArray.append_assoc])
              have hfl := Lib.hid (show decide ((cwU S W (i + 1)).length = 0) = false from decide_eq_false (by rw [hsel.out]; simp))
              replace hmm := Lib.hid hmm
              have hln' : ¬ (n : Int) < ((lvsL v').length : Int) := by omega
              go_wp2
              go_roundw
              case rel =>
                first
                  | exact ⟨i + 1, by omega, by go_num, by rw [hfin.out], by rw [hfl.out], Below.via' hB4 hbx⟩
                  | (refine ⟨_, _, _, _, _, _, _, ⟨i + 1, by omega, ?_, ?_, ?_, Below.via' hB4 hbx⟩, rfl, rfl, rfl, rfl, rfl, rfl, rfl⟩ <;> first | (rw [hfin.out]; done) | (go_num; done) | (simp [hsel.out]; done))
              case measure => simp [intOf]; omega
    · have hij : i = S.length := by have := hlW.out; omega
      have hv := Lib.hid (show oK S l F W m i = ttT S l F W m by rw [hij]; exact oK_all)
      have hi' : ¬ (i : Int) < (W.length : Int) := by omega
      replace hij := Lib.hid hij
      go_wp2
      go_ret
      exact ⟨by first | rfl | (rw [hv.out]; rfl) | (rw [hv.out, hmq.out]; rfl) | (rw [hv.out]; first | rfl | (rw [← hmq.out]; rfl)), hBr⟩
theorem nTable_any (y x z : Option Addr) (c1 c2 c3 : Nat) (P : List Int) (S : List (ByteArray × Int)) (l : Int) (F W : List Int) (m : Int) (w : World) (htg : TgP P S l F W m) (hS : SIn w y c1 S) (hT : TIn w x z F W) :
    Calls Tryd.prog 21 #[.slice y S.length c1, .agg #[.int .i64 l, .slice x F.length c2, .slice z W.length c3, .int .i64 m]] w fun e w' => e = .returned (.string (ttT S l F W m)) ∧ Below w.heap.size w w' := by
  by_cases hm : m = -1 <;> by_cases hF0 : F.length = 0
  exact nt00 y x z c1 c2 c3 P S l F W m w htg hS hT (Lib.hid hm) (Lib.hid hF0)
  exact nt01 y x z c1 c2 c3 P S l F W m w htg hS hT (Lib.hid hm) (Lib.hid hF0)
  exact nt10 y x z c1 c2 c3 P S l F W m w htg hS hT (Lib.hid hm) (Lib.hid hF0)
  exact nt11 y x z c1 c2 c3 P S l F W m w htg hS hT (Lib.hid hm) (Lib.hid hF0)
/-- What TableText answers. -/
def ttR (P : List Int) (S : List (ByteArray × Int)) (l : Int) (F W : List Int) (m : Int) : ByteArray := if tgB P S l F W m then ttT S l F W m else ⟨#[]⟩
theorem ttR_yes {P : List Int} {S : List (ByteArray × Int)} {l : Int} {F W : List Int} {m : Int} (h : tgB P S l F W m = true) : ttR P S l F W m = ttT S l F W m := by unfold ttR; rw [h]; rfl
theorem ttR_no {P : List Int} {S : List (ByteArray × Int)} {l : Int} {F W : List Int} {m : Int} (h : tgB P S l F W m = false) : ttR P S l F W m = ⟨#[]⟩ := by unfold ttR; rw [h]; rfl
theorem ret_sbT {a b : ByteArray} {p q : Bool} (h : a = b) (k : p = q) : Ending.returned (.tuple #[.string a, .bool p]) = .returned (.tuple #[.string b, .bool q]) := by rw [h, k]
set_option maxHeartbeats 4000000 in
theorem iTT_x (p y x z : Option Addr) (c c1 c2 c3 : Nat) (P : List Int) (S : List (ByteArray × Int)) (l : Int) (F W : List Int) (m : Int) (w : World) (hP : IIn w p P) (hS : SIn w y c1 S) (hT : TIn w x z F W) :
    Calls Tryd.prog 12 #[.agg #[.slice p P.length c], .slice y S.length c1, .agg #[.int .i64 l, .slice x F.length c2, .slice z W.length c3, .int .i64 m]] w fun e w' => e = .returned (.tuple #[.string (ttR P S l F W m), .bool (tgB P S l F W m)]) ∧ Below w.heap.size w w' := by
  have hPh := Lib.hid hP
  have hSh := Lib.hid hS
  have hFh := Lib.hid hT.1
  have hWh := Lib.hid hT.2
  clear hP hS hT
  have p1 := Lib.hid (QB.new w p P.length c 33)
  have p2 := Lib.hid (TQ.new (w.alloc (.cells #[.slice p P.length c] 33)) l x F.length c2 z W.length c3 m 37)
  obtain ⟨w0, hw0⟩ : ∃ w0, w0 = (w.alloc (.cells #[.slice p P.length c] 33)).alloc (.cells #[.int .i64 l, .slice x F.length c2, .slice z W.length c3, .int .i64 m] 37) := ⟨_, rfl⟩
  have B0 : Below w.heap.size w w0 := by rw [hw0]; exact (by repeat (first | exact Below.refl _ _ | assumption | refine Below.drew ?_ | refine below_drewN ?_ _ | refine Below.alloc' ?_ _ | (refine Below.setCell ?_ (by first | omega | (simp; done) | (simp; omega) | exact Below.size (by assumption) | exact Nat.le_trans (Below.size (by assumption)) (by simp)) _) | (refine Below.via' ?_ (by assumption)) | (refine Below.alloc ?_ (by first | omega | (simp; done) | (simp; omega) | exact Below.size (by assumption) | exact Nat.le_trans (Below.size (by assumption)) (by simp)) _) | (refine Below.via ?_ (by assumption) (by first | omega | (simp; done) | (simp; omega) | exact Below.size (by assumption) | exact Nat.le_trans (Below.size (by assumption)) (by simp)))))
  have g0 : Hid (QB w0 w.heap.size p P.length c) := by
    rw [hw0]
    exact p1.out.below (show Below (w.alloc (.cells #[.slice p P.length c] 33)).heap.size (w.alloc (.cells #[.slice p P.length c] 33)) _ from (by repeat (first | exact Below.refl _ _ | assumption | refine Below.drew ?_ | refine below_drewN ?_ _ | refine Below.alloc' ?_ _ | (refine Below.setCell ?_ (by first | omega | (simp; done) | (simp; omega) | exact Below.size (by assumption) | exact Nat.le_trans (Below.size (by assumption)) (by simp)) _) | (refine Below.via' ?_ (by assumption)) | (refine Below.alloc ?_ (by first | omega | (simp; done) | (simp; omega) | exact Below.size (by assumption) | exact Nat.le_trans (Below.size (by assumption)) (by simp)) _) | (refine Below.via ?_ (by assumption) (by first | omega | (simp; done) | (simp; omega) | exact Below.size (by assumption) | exact Nat.le_trans (Below.size (by assumption)) (by simp))))))
  have t0 : Hid (TQ w0 (w.heap.size + 1) l x F.length c2 z W.length c3 m) := by
    have h0 := p2.out
    rw [World.size_alloc, ← hw0] at h0
    exact h0
  have z0 : w0.heap.size = w.heap.size + 1 + 1 := by rw [hw0]; simp
  clear p1 p2
  go_enter Tryd.func12, Tryd.ntmps12
  go_wp2_with fail
  rw [← hw0]
  replace hw0 := Lib.hid hw0
  replace z0 := Lib.hid z0
  refine (isTb_any p y x z _ _ _ _ P S l F W m _ (hPh.out.below B0) (hSh.out.below B0) ⟨hFh.out.below B0, hWh.out.below B0⟩).mono ?_
  rintro e w1 ⟨rfl, hb1⟩
  have B1 : Below w.heap.size w w1 := Below.via' B0 hb1
  have g1 := Lib.hid (g0.out.below hb1)
  have t1 := Lib.hid (t0.out.below hb1)
  obtain ⟨ka1, kb1, kc1⟩ := g1.out
  obtain ⟨ta1, tb1, tc1, td1, te1⟩ := t1.out
  try clear ka0 kb0 kc0 ta0 tb0 tc0 td0 te0
  clear hb1
  cases htb : tgB P S l F W m
  · have hv := Lib.hid (ttR_no htb)
    replace htb := Lib.hid htb
    go_wp2
    go_ret2
    exact ⟨ret_sbT hv.out.symm htb.out.symm, B1⟩
  have hv := Lib.hid (ttR_yes htb)
  have htg := tg_iff.1 htb
  replace htb := Lib.hid htb
  go_wp2_with fail
  refine (tableText_any y x z _ _ _ P S l F W m _ htg (hSh.out.below B1) ⟨hFh.out.below B1, hWh.out.below B1⟩).mono ?_
  rintro e w2 ⟨rfl, hb2⟩
  clear htg
  go_wp2
  go_ret2
  exact ⟨ret_sbT hv.out.symm htb.out.symm, Below.via' B1 hb2⟩
set_option maxHeartbeats 4000000 in
theorem sTT_x (p y x z : Option Addr) (c c1 c2 c3 : Nat) (P : List Int) (S : List (ByteArray × Int)) (l : Int) (F W : List Int) (m : Int) (w : World) (hP : IIn w p P) (hS : SIn w y c1 S) (hT : TIn w x z F W) :
    Calls Tryd.prog 8 #[.agg #[.slice p P.length c], .slice y S.length c1, .agg #[.int .i64 l, .slice x F.length c2, .slice z W.length c3, .int .i64 m]] w fun e w' => e = .returned (.tuple #[.string (ttR P S l F W m), .bool (tgB P S l F W m)]) ∧ Below w.heap.size w w' := by
  have hPh := Lib.hid hP
  have hSh := Lib.hid hS
  have hFh := Lib.hid hT.1
  have hWh := Lib.hid hT.2
  clear hP hS hT
  have p1 := Lib.hid (QB.new w p P.length c 33)
  have p2 := Lib.hid (TQ.new (w.alloc (.cells #[.slice p P.length c] 33)) l x F.length c2 z W.length c3 m 37)
  obtain ⟨w0, hw0⟩ : ∃ w0, w0 = (w.alloc (.cells #[.slice p P.length c] 33)).alloc (.cells #[.int .i64 l, .slice x F.length c2, .slice z W.length c3, .int .i64 m] 37) := ⟨_, rfl⟩
  have B0 : Below w.heap.size w w0 := by rw [hw0]; exact (by repeat (first | exact Below.refl _ _ | assumption | refine Below.drew ?_ | refine below_drewN ?_ _ | refine Below.alloc' ?_ _ | (refine Below.setCell ?_ (by first | omega | (simp; done) | (simp; omega) | exact Below.size (by assumption) | exact Nat.le_trans (Below.size (by assumption)) (by simp)) _) | (refine Below.via' ?_ (by assumption)) | (refine Below.alloc ?_ (by first | omega | (simp; done) | (simp; omega) | exact Below.size (by assumption) | exact Nat.le_trans (Below.size (by assumption)) (by simp)) _) | (refine Below.via ?_ (by assumption) (by first | omega | (simp; done) | (simp; omega) | exact Below.size (by assumption) | exact Nat.le_trans (Below.size (by assumption)) (by simp)))))
  have g0 : Hid (QB w0 w.heap.size p P.length c) := by
    rw [hw0]
    exact p1.out.below (show Below (w.alloc (.cells #[.slice p P.length c] 33)).heap.size (w.alloc (.cells #[.slice p P.length c] 33)) _ from (by repeat (first | exact Below.refl _ _ | assumption | refine Below.drew ?_ | refine below_drewN ?_ _ | refine Below.alloc' ?_ _ | (refine Below.setCell ?_ (by first | omega | (simp; done) | (simp; omega) | exact Below.size (by assumption) | exact Nat.le_trans (Below.size (by assumption)) (by simp)) _) | (refine Below.via' ?_ (by assumption)) | (refine Below.alloc ?_ (by first | omega | (simp; done) | (simp; omega) | exact Below.size (by assumption) | exact Nat.le_trans (Below.size (by assumption)) (by simp)) _) | (refine Below.via ?_ (by assumption) (by first | omega | (simp; done) | (simp; omega) | exact Below.size (by assumption) | exact Nat.le_trans (Below.size (by assumption)) (by simp))))))
  have t0 : Hid (TQ w0 (w.heap.size + 1) l x F.length c2 z W.length c3 m) := by
    have h0 := p2.out
    rw [World.size_alloc, ← hw0] at h0
    exact h0
  have z0 : w0.heap.size = w.heap.size + 1 + 1 := by rw [hw0]; simp
  clear p1 p2
  go_enter Tryd.func8, Tryd.ntmps8
  go_wp2_with fail
  rw [← hw0]
  replace hw0 := Lib.hid hw0
  replace z0 := Lib.hid z0
  refine (uGood_any p y x z _ _ _ _ P S l m F W _ (hPh.out.below B0) (hSh.out.below B0) ⟨hFh.out.below B0, hWh.out.below B0⟩).mono ?_
  rintro e w1 ⟨rfl, hb1⟩
  have B1 : Below w.heap.size w w1 := Below.via' B0 hb1
  have g1 := Lib.hid (g0.out.below hb1)
  have t1 := Lib.hid (t0.out.below hb1)
  obtain ⟨ka1, kb1, kc1⟩ := g1.out
  obtain ⟨ta1, tb1, tc1, td1, te1⟩ := t1.out
  try clear ka0 kb0 kc0 ta0 tb0 tc0 td0 te0
  clear hb1
  cases htb : tgB P S l F W m
  · have hv := Lib.hid (ttR_no htb)
    replace htb := Lib.hid htb
    go_wp2
    go_ret2
    exact ⟨ret_sbT hv.out.symm htb.out.symm, B1⟩
  have hv := Lib.hid (ttR_yes htb)
  have htg := tg_iff.1 htb
  replace htb := Lib.hid htb
  go_wp2_with fail
  refine (nTable_any y x z _ _ _ P S l F W m _ htg (hSh.out.below B1) ⟨hFh.out.below B1, hWh.out.below B1⟩).mono ?_
  rintro e w2 ⟨rfl, hb2⟩
  clear htg
  go_wp2
  go_ret2
  exact ⟨ret_sbT hv.out.symm htb.out.symm, Below.via' B1 hb2⟩
end Go.Proofs.YtgkaalonmkcclaaDoor
