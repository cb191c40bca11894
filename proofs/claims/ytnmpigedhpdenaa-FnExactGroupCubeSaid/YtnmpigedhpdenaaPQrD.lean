import Derived.Test.YtnmpigedhpdenaaPQrC
namespace Go.Proofs.Ytnmpigedhpdenaa
open Go.RowKit
set_option maxRecDepth 100000

theorem inc_first {L : List Int} (hI : Inc L) {f : Int} (h : L[0]? = some f) : f ∈ L ∧ ∀ x ∈ L, f ≤ x := by
  refine ⟨List.mem_of_getElem? h, fun x hx => ?_⟩
  obtain ⟨j, hj, rfl⟩ := List.getElem_of_mem hx
  obtain ⟨h0, rfl⟩ := List.getElem?_eq_some_iff.1 h
  rcases Nat.eq_zero_or_pos j with h9 | h9
  · subst h9
    exact Int.le_refl _
  · have := List.pairwise_iff_getElem.1 hI 0 j h0 hj h9
    omega
theorem ne_gof {G : List Int} (h : G ≠ []) : (metL G)[(metL G).length - 1]? = some (mxZ G) := by
  have hl : 0 < (metL G).length := List.length_pos_iff.2 (met_ne h)
  have e : (metL G)[(metL G).length - 1]? = some (metL G)[(metL G).length - 1] := List.getElem?_eq_getElem (by omega)
  rw [e]
  unfold mxZ
  rw [lsZ_at e]
theorem cgr_iff {G : List Int} (hne : G ≠ []) {f : Int} (hf : (metL G)[0]? = some f) : (f = 0 ∧ mxZ G = ((metL G).length : Int) - 1) ↔ cgrB G = true := by
  have hI := metL_inc G
  have hmn := met_ne hne
  have hff := inc_first hI hf
  constructor
  · rintro ⟨rfl, h2⟩
    have h0 : ∀ x ∈ metL G, 0 ≤ x := hff.2
    have hfull := (inc_full hI h0 hmn).2 h2
    have hml := metL_len G
    unfold cgrB
    rw [Bool.and_eq_true, List.all_eq_true]
    constructor
    · unfold inR
      rw [List.all_eq_true]
      intro x hx
      have a := h0 x ((metL_mem G x).2 hx)
      have b := mx_top hx
      exact (inB_iff _ _ _).2 ⟨a, by omega⟩
    · intro k hk
      rw [decide_eq_true_eq]
      exact (metL_mem G _).1 (hfull k (List.mem_range.1 hk))
  · intro h
    unfold cgrB at h
    rw [Bool.and_eq_true, List.all_eq_true] at h
    have hall : ∀ x ∈ metL G, 0 ≤ x := fun x hx => by
      have h9 := h.1
      unfold inR at h9
      rw [List.all_eq_true] at h9
      exact ((inB_iff _ _ _).1 (h9 x ((metL_mem G x).1 hx))).1
    have hl : 0 < (metL G).length := List.length_pos_iff.2 hmn
    refine ⟨?_, (inc_full hI hall hmn).1 fun k hk => (metL_mem G _).2 (of_decide_eq_true (h.2 k (List.mem_range.2 hk)))⟩
    have a := hall f hff.1
    have b := hff.2 0 ((metL_mem G 0).2 (of_decide_eq_true (h.2 0 (List.mem_range.2 hl))))
    omega
def cbN (G : List Int) : Int := if cgrB G then cgrN G else 0
theorem cbN_yes {G : List Int} (h : cgrB G = true) : cbN G = (metL G).length := by
  unfold cbN
  rw [h]
  unfold cgrB at h
  rw [Bool.and_eq_true] at h
  unfold cgrN
  rw [h.1]
  rfl
theorem cbN_no {G : List Int} (h : ¬ cgrB G = true) : cbN G = 0 := by unfold cbN; rw [if_neg h]
set_option maxHeartbeats 4000000 in
theorem cbGroups_any (y : Option Addr) (c2 : Nat) (G : List Int) (w : World) (hne : G ≠ []) (hl : G.length ≤ 1000) (hG : Rd w y (iC G)) :
    Calls Try.prog 82 #[.slice y G.length c2] w fun e w' => e = .returned (.int .i64 (cbN G)) ∧ Below w.heap.size w w' := by
  have hGh := Lib.hid hG
  clear hG
  go_enter Try.func82, Try.ntmps82
  go_wp2
  go_loopw [3, 8] (fun m c wr => ∃ i : Nat, i ≤ G.length ∧ c = .int .i64 i ∧ wr.ownsRow w.heap.size 3 1 m (metL (G.take i)).length (iC (metL (G.take i))) ∧ Hid (i = 0 → m = .slice none 0 0) ∧ Below w.heap.size w wr) (fun _ c _ => G.length - (intOf c).toNat)
  case atStart => exact ⟨0, by omega, rfl, World.ownsRow_nil _ _ _ _, (fun _ => rfl), Below.refl _ _⟩
  case round =>
    obtain ⟨i, hi, rfl, hown, hnil, hb⟩ := hrel
    have hml : (metL (G.take i)).length ≤ i := by
      have := metL_len (G.take i)
      rw [List.length_take] at this
      omega
    have hbs := hb.size
    by_cases hlt : i < G.length
    · obtain ⟨bl2, off2, u, hy, hbl2, hGi, hc2⟩ := (hGh.out.below hb).int (i := i) hlt
      subst hy
      have hlt' : (i : Int) < (G.length : Int) := by omega
      have htk : Hid (metL (G.take (i + 1)) = putL (metL (G.take i)) u) := by unfold Hid; rw [take_snoc hGi, metL_snoc]
      replace hGi := Lib.hid hGi
      by_cases hi0 : i = 0
      · have hmn := hnil.out hi0
        subst hmn
        have hme : Hid (metL (G.take i) = []) := by unfold Hid; rw [hi0]; rfl
        replace hi0 := Lib.hid hi0
        clear hown
        go_wp2_with (go_at_call 100; refine (l1Put_nil _ w.heap.size _ hbs).mono ?_; rintro e w2 ⟨m2, rfl, hown2, hb2⟩)
        go_roundw
        case rel => exact ⟨i + 1, by omega, by go_num, by rw [htk.out, hme.out]; exact hown2, (fun h => absurd h (by omega)), (by repeat (first | exact Below.refl _ _ | assumption | refine Below.drew ?_ | refine below_drewN ?_ _ | refine Below.alloc' ?_ _ | (refine Below.setCell ?_ (by first | omega | (simp; done) | (simp; omega) | exact Below.size (by assumption) | exact Nat.le_trans (Below.size (by assumption)) (by simp)) _) | (refine Below.via' ?_ (by assumption)) | (refine Below.alloc ?_ (by first | omega | (simp; done) | (simp; omega) | exact Below.size (by assumption) | exact Nat.le_trans (Below.size (by assumption)) (by simp)) _) | (refine Below.via ?_ (by assumption) (by first | omega | (simp; done) | (simp; omega) | exact Below.size (by assumption) | exact Nat.le_trans (Below.size (by assumption)) (by simp)))))⟩
        case measure => simp [intOf]; omega
      · have hpos : 0 < (metL (G.take i)).length := by
          apply List.length_pos_iff.2
          apply met_ne
          intro e
          have : (G.take i).length = 0 := by rw [e]; rfl
          rw [List.length_take] at this
          omega
        obtain ⟨g, cap, hmm⟩ := own_some hown hpos
        subst hmm
        go_wp2_with (go_at_call 100; refine (l1Put_some _ _ _ _ _ w.heap.size _ (by omega) rfl hpos (metL_inc _) hbs hown).mono ?_; rintro e w2 ⟨m2, rfl, hown2, hb2⟩)
        go_roundw
        case rel => exact ⟨i + 1, by omega, by go_num, by rw [htk.out]; exact hown2, (fun h => absurd h (by omega)), (by repeat (first | exact Below.refl _ _ | assumption | refine Below.drew ?_ | refine below_drewN ?_ _ | refine Below.alloc' ?_ _ | (refine Below.setCell ?_ (by first | omega | (simp; done) | (simp; omega) | exact Below.size (by assumption) | exact Nat.le_trans (Below.size (by assumption)) (by simp)) _) | (refine Below.via' ?_ (by assumption)) | (refine Below.alloc ?_ (by first | omega | (simp; done) | (simp; omega) | exact Below.size (by assumption) | exact Nat.le_trans (Below.size (by assumption)) (by simp)) _) | (refine Below.via ?_ (by assumption) (by first | omega | (simp; done) | (simp; omega) | exact Below.size (by assumption) | exact Nat.le_trans (Below.size (by assumption)) (by simp)))))⟩
        case measure => simp [intOf]; omega
    · have hij : i = G.length := by omega
      subst hij
      rw [List.take_length] at hown hml
      clear hnil
      have hpos : 0 < (metL G).length := List.length_pos_iff.2 (met_ne hne)
      obtain ⟨g, cap, hmm⟩ := own_some hown hpos
      subst hmm
      obtain ⟨f, hf⟩ : ∃ f, (metL G)[0]? = some f := ⟨_, List.getElem?_eq_getElem hpos⟩
      have hlast := ne_gof hne
      have hcell0 := (hown.cellAt 0 (by omega)).trans (iC_at hf)
      have hcell := (hown.cellAt ((metL G).length - 1) (by omega)).trans (iC_at hlast)
      have hiff := Lib.hid (cgr_iff hne hf)
      have hlen0 : ¬ ((metL G).length : Int) = 0 := by omega
      have hmn := met_ne hne
      have hlb : (((metL G).length : Int) == 0) = false := by rw [beq_eq_false_iff_ne]; exact hlen0
      have hbd : 1 ≤ ((metL G).length : Int) ∧ ((metL G).length : Int) - 1 < ((metL G).length : Int) := by omega
      have hcast : (((metL G).length - 1 : Nat) : Int) = ((metL G).length : Int) - 1 := by omega
      have hpos' : (0 : Int) < ((metL G).length : Int) := by omega
      have hge : (0 : Int) ≤ ((metL G).length : Int) - 1 := by omega
      have hms : (metL G).length ≤ 1000 := by omega
      replace hlast := Lib.hid hlast
      replace hf := Lib.hid hf
      by_cases h1 : f = 0
      · by_cases h2 : mxZ G = ((metL G).length : Int) - 1
        · have hv := Lib.hid (cbN_yes (hiff.out.1 ⟨h1, h2⟩))
          subst h1
          have h2b : (mxZ G == ((metL G).length : Int) - 1) = true := by rw [beq_iff_eq]; exact h2
          have h2c : (mxZ G != ((metL G).length : Int) - 1) = false := by show (!(mxZ G == ((metL G).length : Int) - 1)) = false; rw [h2b]; rfl
          replace h2 := Lib.hid h2
          go_wp2
          go_ret
          exact ⟨ret_int hv.out.symm, (by repeat (first | exact Below.refl _ _ | assumption | refine Below.drew ?_ | refine below_drewN ?_ _ | refine Below.alloc' ?_ _ | (refine Below.setCell ?_ (by first | omega | (simp; done) | (simp; omega) | exact Below.size (by assumption) | exact Nat.le_trans (Below.size (by assumption)) (by simp)) _) | (refine Below.via' ?_ (by assumption)) | (refine Below.alloc ?_ (by first | omega | (simp; done) | (simp; omega) | exact Below.size (by assumption) | exact Nat.le_trans (Below.size (by assumption)) (by simp)) _) | (refine Below.via ?_ (by assumption) (by first | omega | (simp; done) | (simp; omega) | exact Below.size (by assumption) | exact Nat.le_trans (Below.size (by assumption)) (by simp)))))⟩
        · have hv := Lib.hid (cbN_no (fun h => h2 (hiff.out.2 h).2))
          subst h1
          have h2b : (mxZ G == ((metL G).length : Int) - 1) = false := by rw [beq_eq_false_iff_ne]; exact h2
          have h2c : (mxZ G != ((metL G).length : Int) - 1) = true := by show (!(mxZ G == ((metL G).length : Int) - 1)) = true; rw [h2b]; rfl
          replace h2 := Lib.hid h2
          go_wp2
          go_ret
          exact ⟨ret_int hv.out.symm, (by repeat (first | exact Below.refl _ _ | assumption | refine Below.drew ?_ | refine below_drewN ?_ _ | refine Below.alloc' ?_ _ | (refine Below.setCell ?_ (by first | omega | (simp; done) | (simp; omega) | exact Below.size (by assumption) | exact Nat.le_trans (Below.size (by assumption)) (by simp)) _) | (refine Below.via' ?_ (by assumption)) | (refine Below.alloc ?_ (by first | omega | (simp; done) | (simp; omega) | exact Below.size (by assumption) | exact Nat.le_trans (Below.size (by assumption)) (by simp)) _) | (refine Below.via ?_ (by assumption) (by first | omega | (simp; done) | (simp; omega) | exact Below.size (by assumption) | exact Nat.le_trans (Below.size (by assumption)) (by simp)))))⟩
      · have hv := Lib.hid (cbN_no (fun h => h1 (hiff.out.2 h).1))
        go_wp2
        go_ret
        exact ⟨ret_int hv.out.symm, (by repeat (first | exact Below.refl _ _ | assumption | refine Below.drew ?_ | refine below_drewN ?_ _ | refine Below.alloc' ?_ _ | (refine Below.setCell ?_ (by first | omega | (simp; done) | (simp; omega) | exact Below.size (by assumption) | exact Nat.le_trans (Below.size (by assumption)) (by simp)) _) | (refine Below.via' ?_ (by assumption)) | (refine Below.alloc ?_ (by first | omega | (simp; done) | (simp; omega) | exact Below.size (by assumption) | exact Nat.le_trans (Below.size (by assumption)) (by simp)) _) | (refine Below.via ?_ (by assumption) (by first | omega | (simp; done) | (simp; omega) | exact Below.size (by assumption) | exact Nat.le_trans (Below.size (by assumption)) (by simp)))))⟩
end Go.Proofs.Ytnmpigedhpdenaa

namespace Go.Proofs.Ytnmpigedhpdenaa
open Go.RowKit
set_option maxRecDepth 100000

def pkL (Z D : List Int) : List Int := D.map fun d => Z.getD d.toNat 0
set_option maxHeartbeats 4000000 in
theorem pickI_any (x y : Option Addr) (c d : Nat) (Z D : List Int) (w : World) (hZ : IIn w x Z) (hD : Rd w y (iC D)) (hl : D.length ≤ 1000) (hb : ∀ v ∈ D, 0 ≤ v ∧ v < (Z.length : Int)) :
    Calls Try.prog 98 #[.slice x Z.length c, .slice y D.length d] w (RetC (pkL Z D) w) := by
  obtain ⟨i0, hii, hz0, hz1, hz2⟩ := info_parts Try.infoInt
  have hZh := Lib.hid hZ
  have hDh := Lib.hid hD
  have hbh := Lib.hid hb
  clear hZ hD hb
  go_enter Try.func98, Try.ntmps98
  go_wp2
  go_loopw [5, 10] (fun u q wr => ∃ j : Nat, j ≤ D.length ∧ q = .int .i64 j ∧ Hid (wr.ownsRow w.heap.size 3 1 u (pkL Z (D.take j)).length (iC (pkL Z (D.take j)))) ∧ Below w.heap.size w wr) (fun _ q _ => D.length - (intOf q).toNat)
  case atStart => exact ⟨0, by omega, by go_num, World.ownsRow_nil _ _ _ _, Below.refl _ _⟩
  case round =>
    obtain ⟨j, hj, rfl, ho, hB⟩ := hrel
    by_cases hlt : j < D.length
    · obtain ⟨bl, off, v, rfl, hbl, hDj, hc0⟩ := (hDh.out.below hB).int hlt
      obtain ⟨v1, v2⟩ := hbh.out v (List.mem_of_getElem? hDj)
      obtain ⟨k, rfl⟩ : ∃ k : Nat, v = (k : Int) := ⟨v.toNat, by omega⟩
      obtain ⟨b2, o2, n, rfl, hb2, hZk, hc1⟩ := (hZh.out.below hB).2.2.int (i := k) (by omega)
      have hst : pkL Z (D.take (j + 1)) = pkL Z (D.take j) ++ [n] := by
        rw [take_snoc hDj]
        unfold pkL
        rw [List.map_append]
        simp [List.getD_eq_getElem?_getD, hZk]
      have hsn := Lib.hid hst
      have hll : (pkL Z (D.take j)).length = j := by unfold pkL; simp; omega
      have hsw := hB.size
      have hlt' : (j : Int) < (D.length : Int) := by omega
      have hk0 : (0 : Int) ≤ (k : Int) := by omega
      replace hDj := Lib.hid hDj
      replace hZk := Lib.hid hZk
      clear hst
      obtain ⟨L, hL⟩ : ∃ L, L = pkL Z (D.take j) := ⟨_, rfl⟩
      rw [← hL] at ho hsn hll
      replace hL := Lib.hid hL
      go_wp2_with (at_builtin; go_loud (refine wpList_append_rd _ rfl (.tmp 14) (.tmp 19) 22 rfl w.heap.size 3 i0 (.int .i64 0) 1 8 Try.underlying22 hii hz0 hz1 hz2 rfl (by decide) _ L.length (iC L) rfl (ho.out.alloc _) _ 1 1 rfl (Nat.le_refl _) (by intro h; cases h) (iC [n]) rfl (rd_oneN _ _ _ _ (by simp)) (iC_one _) (by unfold maxLen; omega) (by omega) (by simp; omega) ?_); intro v3 w3 hown3 hgrow3 hwhere3)
      obtain ⟨hb3, hl3⟩ := append_below hB (fun k hk => (ho.out.lt k hk).1) hgrow3 hwhere3
      have ho3 := Lib.hid (own_snocN (M := pkL Z (D.take (j + 1))) hown3 hsn.out rfl)
      clear hgrow3 hwhere3 hown3
      go_wp2
      go_roundw
      case rel => exact ⟨j + 1, by omega, by go_num, ho3, hb3⟩
      case measure => simp [intOf]; omega
    · have hij : j = D.length := by omega
      subst hij
      go_wp2
      go_ret
      exact ⟨_, rfl, by have h9 := ho.out; rw [List.take_length] at h9; exact h9, hB⟩
/-- The cells, by the model. -/
def cmU (Z F C : List Int) : Nat → List Int
  | 0 => []
  | i + 1 => cmU Z F C i ++ [C.getD (ixC Z (mgL F (dgL (opZ Z F) (i : Int)))).toNat 0]
theorem cmU_len (Z F C : List Int) : ∀ n, (cmU Z F C n).length = n
  | 0 => rfl
  | n + 1 => by unfold cmU; rw [List.length_append, cmU_len Z F C n]; rfl
theorem cmU_map (Z F C : List Int) : ∀ n : Nat, cmU Z F C n = (rnI (n : Int)).map fun i => C.getD (ixC Z (mgL F (dgL (opZ Z F) i))).toNat 0
  | 0 => rfl
  | n + 1 => by
    have e : rnI ((n + 1 : Nat) : Int) = rnI (n : Int) ++ [(n : Int)] := by
      unfold rnI
      rw [Int.toNat_natCast, Int.toNat_natCast, List.range_succ, List.map_append]
      rfl
    rw [e, List.map_append, ← cmU_map Z F C n]
    rfl
theorem cmU_all {Z F C : List Int} (h : okF Z F) (hz : ∀ z ∈ Z, 0 ≤ z) {n : Nat} (hn : (n : Int) = cnC (opZ Z F)) : cmU Z F C n = ctL Z F C := by
  rw [cmU_map, hn]
  exact ctO_all h hz
theorem cs_open {Z : List Int} (F : List Int) (h : csB Z = true) : csB (opZ Z F) = true := by
  obtain ⟨h1, h2⟩ := cs_get h
  rw [cs_eq (opZ_ok h1), decide_eq_true_eq]
  have := cn_open F (okZ_nn h1)
  omega
theorem st_step {G D X : List Int} {k : Nat} {d n : Int} (hd : D[k]? = some d) (hx : X[k]? = some n) : stL G ((D.zip X).take (k + 1)) = (stL G ((D.zip X).take k)).set d.toNat n := by
  rw [take_snoc (show (D.zip X)[k]? = some (d, n) from List.getElem?_zip_eq_some.2 ⟨hd, hx⟩), stL_snoc]
theorem st_len (G : List Int) (Q : List (Int × Int)) : (stL G Q).length = G.length := by
  induction Q using snoc_rec with
  | h0 => rfl
  | h1 Q q ih => rw [stL_snoc, List.length_set, ih]
end Go.Proofs.Ytnmpigedhpdenaa

namespace Go.Proofs.Ytnmpigedhpdenaa
open Go.RowKit
set_option maxRecDepth 100000

set_option maxHeartbeats 16000000 in
theorem cbFrom_any (x y z g : Option Addr) (c d e p : Nat) (Z C F G : List Int) (w : World) (hs : csB Z = true) (hm : (C.length : Int) = cnC Z) (h : CIn w x y Z C) (hD : Rd w z (iC (opD F 0))) (hG : IIn w g G) (hcG : G.length ≤ p) (hnG : g = none → p = 0) (hF : okF Z F) (hag : agF F G) (hft : FtC Z G) :
    Calls Try.prog 77 #[.agg #[.slice x Z.length c, .slice y C.length d], .slice z (opD F 0).length e, .slice g G.length p] w (RetCq (opZ Z F, ctL Z F C) w) := by
  obtain ⟨i0, hii, hz0, hz1, hz2⟩ := info_parts Try.infoInt
  have hh := Lib.hid h
  obtain ⟨hz, hc2⟩ := cs_get hs
  have hzh := Lib.hid hz
  have hsY := Lib.hid (cs_open F hs)
  have hzY := Lib.hid (opZ_ok (F := F) hz)
  have h4 := okZ_len hz
  have hl := okF_len hF
  obtain ⟨Y, hY⟩ : ∃ Y, Y = opZ Z F := ⟨_, rfl⟩
  obtain ⟨D, hDe⟩ : ∃ D, D = opD F 0 := ⟨_, rfl⟩
  have hDl : D.length = Y.length := by rw [hDe, hY]; exact opD_len 0 hl
  have hDm : ∀ v ∈ D, 0 ≤ v ∧ v < (Z.length : Int) := fun v hv => by rw [hDe] at hv; have := opD_mem hv; rw [hl] at this; omega
  have hpk : pkL Z D = Y := by rw [hDe, hY]; exact opD_sizes hl
  have hYl : Y.length ≤ 4 := by have := opZ_len Z F; rw [← hY] at this; omega
  obtain ⟨n, hn⟩ : ∃ n : Nat, (n : Int) = cnC Y := ⟨(cnC Y).toNat, by have := (cn_ok (opZ_ok (F := F) hz)).1; rw [← hY] at this; omega⟩
  have hn2 : n ≤ 2000 := by have := (cs_get hsY.out).2; rw [← hY] at this; omega
  have hcv : cbV Y = (n : Int) := by rw [hn, hY]; exact cbV_yes hsY.out
  have hall := Lib.hid (cmU_all (C := C) hF (okZ_nn hz) (n := n) (by rw [hn, hY]))
  have hGl : G.length = Z.length := by
    have h1 : ∀ F G : List Int, agF F G → F.length = G.length := by
      intro F
      induction F with
      | nil => intro G h; cases G with | nil => rfl | cons a b => exact h.elim
      | cons a r ih => intro G h; cases G with | nil => exact h.elim | cons b s => simp only [List.length_cons]; rw [ih s h.2]
    have := h1 F G hag
    omega
  rw [← hDe] at hD ⊢
  have hDh := Lib.hid hD
  have hGh := Lib.hid hG
  have hGm := hG.1
  have hsta := Lib.hid (fun X : List Int => fun hX : X.length = D.length => (by rw [hDe] at hX ⊢; exact st_all hag hX : stL G (D.zip X) = mgL F X))
  have hDmh := Lib.hid hDm
  have hpkh := Lib.hid hpk
  have hfth := Lib.hid hft
  rw [← hY] at hsY hzY ⊢
  have hYh := Lib.hid hY
  have hcm := Lib.hid hm
  have hCl : C.length ≤ 2000 := by omega
  have hcvh := Lib.hid hcv
  have hD4 : D.length ≤ 4 := by omega
  have hDlh := Lib.hid hDl
  have hGlh := Lib.hid hGl
  clear h hs hz hm hc2 hD hG hF hag hft hl hDm hpk hn hcv hY hDe hDl hGl
  have t0n := Fr2.new w x Z.length c y C.length d
  obtain ⟨w0, hw0⟩ : ∃ w0, w0 = (w.alloc (.cells #[.slice x Z.length c, .slice y C.length d] 27)).alloc (.cells #[.slice none 0 0, .slice none 0 0] 27) := ⟨_, rfl⟩
  have B0 : Below w.heap.size w w0 := by rw [hw0]; exact (by repeat (first | exact Below.refl _ _ | assumption | refine Below.drew ?_ | refine below_drewN ?_ _ | refine Below.alloc' ?_ _ | (refine Below.setCell ?_ (by first | omega | (simp; done) | (simp; omega) | exact Below.size (by assumption) | exact Nat.le_trans (Below.size (by assumption)) (by simp)) _) | (refine Below.via' ?_ (by assumption)) | (refine Below.alloc ?_ (by first | omega | (simp; done) | (simp; omega) | exact Below.size (by assumption) | exact Nat.le_trans (Below.size (by assumption)) (by simp)) _) | (refine Below.via ?_ (by assumption) (by first | omega | (simp; done) | (simp; omega) | exact Below.size (by assumption) | exact Nat.le_trans (Below.size (by assumption)) (by simp)))))
  rw [← hw0] at t0n
  have t0 := Lib.hid t0n
  clear t0n
  obtain ⟨⟨a0a, a0b, a0c⟩, -⟩ := t0.out
  go_enter Try.func77, Try.ntmps77
  go_wp2_with fail
  rw [← hw0]
  replace hw0 := Lib.hid hw0
  refine (pickI_any _ _ _ _ Z D _ (hh.out.below B0).1 (hDh.out.below B0) (by omega) hDmh.out).mono ?_
  rw [hpkh.out]
  rintro e1 w1 ⟨v1, rfl, ho1, hb1⟩
  obtain ⟨xS, cS, rfl, -, -⟩ := (OwR.of ho1).form
  have hg1 := hb1.size
  have hl0 : w.heap.size + 1 < w0.heap.size := t0.out.2.inside
  obtain ⟨w2, hw2⟩ : ∃ w2, w2 = w1.alloc (.cells #[.slice xS Y.length cS, .slice none 0 0] 27) := ⟨_, rfl⟩
  have hb2 : Below w1.heap.size w1 w2 := by rw [hw2]; exact (by repeat (first | exact Below.refl _ _ | assumption | refine Below.drew ?_ | refine below_drewN ?_ _ | refine Below.alloc' ?_ _ | (refine Below.setCell ?_ (by first | omega | (simp; done) | (simp; omega) | exact Below.size (by assumption) | exact Nat.le_trans (Below.size (by assumption)) (by simp)) _) | (refine Below.via' ?_ (by assumption)) | (refine Below.alloc ?_ (by first | omega | (simp; done) | (simp; omega) | exact Below.size (by assumption) | exact Nat.le_trans (Below.size (by assumption)) (by simp)) _) | (refine Below.via ?_ (by assumption) (by first | omega | (simp; done) | (simp; omega) | exact Below.size (by assumption) | exact Nat.le_trans (Below.size (by assumption)) (by simp)))))
  have V2 : Hid (Wb w2 w1.heap.size 27 #[.slice xS Y.length cS, .slice none 0 0]) := by rw [hw2]; exact Wb.new w1 27 #[.slice xS Y.length cS, .slice none 0 0]
  have S2 := Lib.hid (own_below ho1 hb2)
  have B1 : Below w.heap.size w w1 := Below.via' B0 hb1
  have B2 : Below w.heap.size w w2 := Below.via' B1 hb2
  have t2 := Lib.hid ((t0.out.below hb1).below hb2)
  have hs2 : w1.heap.size < w2.heap.size := V2.out.inside
  clear ho1 hb1 hb2 a0a a0b a0c
  go_wp2
  rw [← hw2]
  replace hw2 := Lib.hid hw2
  obtain ⟨u7, hu7⟩ : ∃ u7, u7 = w1.heap.size := ⟨_, rfl⟩
  rw [← hu7] at V2 hg1 hs2 ⊢
  replace hu7 := Lib.hid hu7
  go_loopw [8] (fun q wr => ∃ (i : Nat) (zC : Option Addr) (cC : Nat), i ≤ n ∧ q = .int .i64 i ∧ Hid (Wb wr u7 27 #[.slice xS Y.length cS, .slice zC (cmU Z F C i).length cC]) ∧ Hid (wr.ownsRow w0.heap.size 3 1 (.slice xS Y.length cS) Y.length (iC Y)) ∧ Hid (wr.ownsRow w0.heap.size 3 1 (.slice zC (cmU Z F C i).length cC) (cmU Z F C i).length (iC (cmU Z F C i))) ∧ Hid (∀ k, (Value.slice xS Y.length cS).ownBlock = some k → (Value.slice zC (cmU Z F C i).length cC).ownBlock ≠ some k) ∧ Hid (Fr2 wr w.heap.size x Z.length c y C.length d) ∧ Below w.heap.size w wr ∧ u7 < wr.heap.size) (fun q _ => n - (intOf q).toNat)
  case atStart => exact ⟨0, none, 0, by omega, by go_num, V2.out, S2.out, World.ownsRow_nil _ _ _ _, (fun _ _ e => by cases e), t2.out, B2, hs2⟩
  case round =>
    clear V2 S2 t2 B2 hs2
    obtain ⟨i, zC, cC, hi, rfl, hV, hS, hC, hnx, hT, hB, hsz⟩ := hrel
    have v1 : wr.cell? ⟨u7, 0, none⟩ = some (.slice xS Y.length cS) := (hV.out.read 0).trans rfl
    have v3 := hV.out.inside
    have hYi : Hid (IIn wr xS Y) := ⟨by omega, fun m hm => by have := okZ_mem hzY.out hm; unfold IsI64; omega, Rd.of_own hS.out⟩
    go_wp2_with fail
    refine (cbCount_any _ _ Y _ hYi.out).mono ?_
    rintro e w3 ⟨rfl, rfl⟩
    rw [hcvh.out]
    by_cases hlt : i < n
    · have hlt' : (i : Int) < (n : Int) := by omega
      go_wp2_with fail
      refine (l1Own_any g p G _ hGm hcG hnG (hGh.out.2.2.below hB)).mono ?_
      rintro e w3 ⟨v9, rfl, ho9, hb3⟩
      obtain ⟨x9, c9, rfl, -, -⟩ := (OwR.of ho9).form
      obtain ⟨wo, rfl⟩ : ∃ u : World, u = wr := ⟨_, rfl⟩
      have V3 := hV.out.kept hb3
      have v1' : w3.cell? ⟨u7, 0, none⟩ = some (.slice xS Y.length cS) := (V3.read 0).trans rfl
      have v3' := V3.inside
      have hYi3 : Hid (IIn w3 xS Y) := hYi.out.below hb3
      clear v1 v3
      go_wp2_with fail
      refine (cbIndices_any _ _ Y i _ hzY.out (by omega) (by omega) hYi3.out).mono ?_
      rintro e w4 ⟨rfl, ho4, hb4⟩
      have O4 := Lib.hid (own_below ho9 hb4)
      have X4 := Lib.hid ho4
      have hlx := Lib.hid (fun k hk => (ho9.lt k hk))
      have b34 : Hid (Below wo.heap.size wo w4) := Below.via' hb3 hb4
      have hs3 : wo.heap.size ≤ w3.heap.size := hb3.size
      have hs4 := own_lt ho4
      obtain ⟨X, hX⟩ : ∃ X, X = dgL Y (i : Int) := ⟨_, rfl⟩
      have hXl : Hid (X.length = Y.length) := by unfold Hid; rw [hX]; exact dgL_len _ _
      have hXf : Hid (FtC Y X) := by unfold Hid; rw [hX]; exact dg_fit (okZ_nn hzY.out) _
      rw [← hX] at X4
      replace hX := Lib.hid hX
      have hw4s := b34.out.size
      clear ho4 hb4 ho9 hb3 V3 v1' v3' hYi hYi3
      go_wp2
      go_loopw [31] (fun q wi => ∃ k : Nat, k ≤ Y.length ∧ q = .int .i64 k ∧ Hid (wi.ownsRow wo.heap.size 3 1 (.slice x9 G.length c9) G.length (iC (stL G ((D.zip X).take k)))) ∧ Hid (FtC Z (stL G ((D.zip X).take k))) ∧ Hid (wi.ownsRow w3.heap.size 3 1 (.slice (some ⟨w3.heap.size, 0, none⟩) Y.length Y.length) Y.length (iC X)) ∧ Hid (Below wo.heap.size wo wi)) (fun q _ => Y.length - (intOf q).toNat)
      case atStart => exact ⟨0, by omega, by go_num, O4.out, hfth.out, X4.out, b34.out⟩
      case round =>
        clear O4 X4 b34 hs4 hw4s
        obtain ⟨k, hk, rfl, hL, hft, hXo, hBi⟩ := hrel
        obtain ⟨wi, rfl⟩ : ∃ u : World, u = wr := ⟨_, rfl⟩
        have Bi : Hid (Below w.heap.size w wi) := Below.via' hB hBi.out
        by_cases hkl : k < Y.length
        · obtain ⟨bl, off, dd, rfl, hbl, hDk, hc0⟩ := (hDh.out.below Bi.out).int (i := k) (by have := hDlh.out; omega)
          obtain ⟨d1, d2⟩ := hDmh.out dd (List.mem_of_getElem? hDk)
          obtain ⟨kd, rfl⟩ : ∃ kd : Nat, dd = (kd : Int) := ⟨dd.toNat, by omega⟩
          have hkd : kd < Z.length := by omega
          have hZk : Z[kd]? = some Z[kd] := List.getElem?_eq_getElem hkd
          have hYk : Y[k]? = some Z[kd] := by
            rw [← hpkh.out]
            unfold pkL
            rw [List.getElem?_map, hDk]
            simp [List.getD_eq_getElem?_getD, hZk]
          have hxk : k < X.length := by have := hXl.out; omega
          have hXk : X[k]? = some X[k] := List.getElem?_eq_getElem hxk
          have hrng := hXf.out.2 k _ _ hYk hXk
          obtain ⟨u, hu, j0⟩ := own_cell hXo.out (j := k) (by omega)
          obtain rfl : u = .int .i64 X[k] := iC_atI hXk hu
          have j4 := (own_lt hXo.out).2
          have hst := st_step (G := G) hDk hXk
          rw [Int.toNat_natCast] at hst
          have hft2 := hft.out.set hZk hrng.1 hrng.2
          generalize X[k] = xv at *
          generalize Z[kd] = zv at *
          obtain ⟨g9, c92, he⟩ := own_some hL.out (by have := hGlh.out; omega)
          cases he
          obtain ⟨u2, hu2, k0⟩ := own_cell hL.out (j := kd) (by have := hGlh.out; omega)
          have k2 := hL.out.frozenAt kd
          have k4 := (own_lt hL.out).2
          have k5 := (own_lt hL.out).1
          have hlg := (hlx.out g9 rfl).2
          have hkl' : (k : Int) < (Y.length : Int) := by omega
          have hkl2 : (k : Int) < (D.length : Int) := by have := hDlh.out; omega
          have hkg : (kd : Int) < (G.length : Int) := by have := hGlh.out; omega
          have hk0 : (0 : Int) ≤ (kd : Int) := by omega
          have hL2 : Hid ((wi.setCell ⟨g9, kd, none⟩ (.int .i64 xv)).ownsRow wo.heap.size 3 1 (.slice (some ⟨g9, 0, none⟩) G.length c9) G.length (iC (stL G ((D.zip X).take (k + 1))))) := by
            have h5 := (hL.out.stored kd (.int .i64 xv)).1
            rw [← iC_setA, ← hst] at h5
            exact h5
          have hft3 : Hid (FtC Z (stL G ((D.zip X).take (k + 1)))) := by unfold Hid; rw [hst]; exact hft2
          have hXo2 : Hid ((wi.setCell ⟨g9, kd, none⟩ (.int .i64 xv)).ownsRow w3.heap.size 3 1 (.slice (some ⟨w3.heap.size, 0, none⟩) Y.length Y.length) Y.length (iC X)) := hXo.out.kept (grown_setU wi ⟨g9, kd, none⟩ _) (.inr (fun e => by injection e with e; simp at e; omega))
          have hB2 : Hid (Below wo.heap.size wo (wi.setCell ⟨g9, kd, none⟩ (.int .i64 xv))) := Below.setCell (p := ⟨g9, kd, none⟩) hBi.out (by show wo.heap.size ≤ g9; omega) _
          replace hDk := Lib.hid hDk
          clear hZk hYk hXk hst hft2 hu hu2 hrng
          go_wp2
          go_roundw
          case rel => exact ⟨k + 1, by omega, by go_num, hL2, hft3, hXo2, hB2⟩
          case measure => simp [intOf]; omega
        · have hij : k = Y.length := by omega
          subst hij
          have hzl : (D.zip X).take Y.length = D.zip X := List.take_of_length_le (by rw [List.length_zip]; have := hXl.out; have := hDlh.out; omega)
          rw [hzl] at hL hft
          obtain ⟨L, hLe⟩ : ∃ L, L = stL G (D.zip X) := ⟨_, rfl⟩
          have hLl : L.length = G.length := by rw [hLe]; exact st_len _ _
          have hLm : L = mgL F (dgL Y (i : Int)) := by rw [hLe, hsta.out X (by have := hXl.out; have := hDlh.out; omega), hX.out]
          rw [← hLe] at hL hft
          obtain ⟨ix1, ix2⟩ := ix_in hft.out
          obtain ⟨ni, hni⟩ : ∃ ni : Nat, ixC Z L = (ni : Int) := ⟨(ixC Z L).toNat, by omega⟩
          have hnl : ni < C.length := by have := hcm.out; omega
          obtain ⟨bC, oC, val, rfl, hbC, hCn, hcC⟩ := (hh.out.below Bi.out).2.2.2.int hnl
          have hst : cmU Z F C (i + 1) = cmU Z F C i ++ [val] := by
            show _ ++ [C.getD (ixC Z (mgL F (dgL (opZ Z F) (i : Int)))).toNat 0] = _
            rw [← hYh.out, ← hLm, hni, Int.toNat_natCast, getD_at hCn]
          have hsn := Lib.hid hst
          have hix := Lib.hid hni
          have hnl' : (ni : Int) < (C.length : Int) := by omega
          have hni0 : (0 : Int) ≤ (ni : Int) := by omega
          have hcall : ∀ W, Below wi.heap.size wi W → Calls Try.prog 74 #[.slice x Z.length c, .slice x9 G.length c9] W fun e w' => e = .returned (.int .i64 (ni : Int)) ∧ W = w' := fun W hW => by
            have h0 := cbAt_any x x9 c c9 Z L W hzh.out hft.out ((hh.out.below Bi.out).1.below hW) ((Rd.of_own hL.out).below hW)
            rw [hLl, hni] at h0
            exact h0
          have hcl := Lib.hid hcall
          obtain ⟨M, hM⟩ : ∃ M, M = cmU Z F C i := ⟨_, rfl⟩
          have hMl : M.length = i := by rw [hM]; exact cmU_len _ _ _ _
          rw [← hM] at hsn hV hC hnx
          have Vi := Lib.hid (hV.out.kept hBi.out)
          have Si := Lib.hid (own_below hS.out hBi.out)
          have Ci := Lib.hid (own_below hC.out hBi.out)
          have Ti := Lib.hid (hT.out.below hBi.out)
          have hsi := hBi.out.size
          have hne2 := Lib.hid (wb_apart Vi.out Ci.out (by decide))
          have hlow := Lib.hid Ci.out.lt
          have g0 : wi.cell? ⟨u7, 0, none⟩ = some (.slice xS Y.length cS) := (Vi.out.read 0).trans rfl
          have g1 : wi.cell? ⟨u7, 1, none⟩ = some (.slice zC M.length cC) := (Vi.out.read 1).trans rfl
          have gi := Vi.out.inside
          obtain ⟨⟨ara, arb, arc⟩, -⟩ := Ti.out
          have hMh := Lib.hid hMl
          have hM2 : M.length ≤ 2000 := by omega
          have hs0 : w0.heap.size ≤ wi.heap.size := by omega
          replace hCn := Lib.hid hCn
          clear hLe hLm hst hni hcall hM hMl ix1 ix2 hzl hV hS hC hT
          go_wp2_with fail
          go_region_law (first
            | (go_simp; go_at_call 74; refine (hcl.out _ (by exact (by repeat (first | exact Below.refl _ _ | assumption | refine Below.drew ?_ | refine below_drewN ?_ _ | refine Below.alloc' ?_ _ | (refine Below.setCell ?_ (by first | omega | (simp; done) | (simp; omega) | exact Below.size (by assumption) | exact Nat.le_trans (Below.size (by assumption)) (by simp)) _) | (refine Below.via' ?_ (by assumption)) | (refine Below.alloc ?_ (by first | omega | (simp; done) | (simp; omega) | exact Below.size (by assumption) | exact Nat.le_trans (Below.size (by assumption)) (by simp)) _) | (refine Below.via ?_ (by assumption) (by first | omega | (simp; done) | (simp; omega) | exact Below.size (by assumption) | exact Nat.le_trans (Below.size (by assumption)) (by simp))))))).mono ?_; rintro e8 w8 ⟨rfl, rfl⟩)
            | (go_loud (refine step_append_rd _ rfl (.tmp 45) (.tmp 54) 22 rfl w0.heap.size 3 i0 (.int .i64 0) 1 8 Try.underlying22 hii hz0 hz1 hz2 rfl (by decide) _ M.length (iC M) rfl ((Ci.out.alloc _).drew) _ 1 1 rfl (Nat.le_refl _) (by intro h; cases h) (iC [val]) rfl (rd_oneN _ _ _ _ (by simp)) (iC_one _) (by unfold maxLen; omega) (by omega) (by simp; omega) ?_); intro v5 w5 hown5 hgrow5 hwhere5; (obtain ⟨z5, c5, rfl, -, -⟩ := (OwR.of hown5).form); (have hgr : (wi.alloc (.cells #[.int .i64 val] 3)).drew.grownBy w5 (Value.ownBlock (.slice zC M.length cC)) := hgrow5); (have hg5 : wi.grownBy w5 (Value.ownBlock (.slice zC M.length cC)) := (show wi.grownBy (wi.alloc (.cells #[.int .i64 val] 3)).drew _ from grown_drewC (World.grownBy_alloc wi _ _)).trans hgr); (have V5 := Lib.hid (Vi.out.grownC hg5 hne2.out)); (have c50 : w5.cell? ⟨u7, 0, none⟩ = some (.slice xS Y.length cS) := (V5.out.read 0).trans rfl); (have c51 : w5.cell? ⟨u7, 1, none⟩ = some (.slice zC M.length cC) := (V5.out.read 1).trans rfl); (have f50 := V5.out.free 1); (have in5 := V5.out.inside)))
          all_goals
            have hB5 : Below w.heap.size w w5 := Bi.out.grown hg5 Bi.out.size (fun k hk => by have := (hlow.out k hk).1; omega)
            have hLn : (M ++ [val]).length = M.length + 1 := by simp
            have hO5 : Hid (w5.ownsRow w0.heap.size 3 1 (.slice z5 (M ++ [val]).length c5) (M ++ [val]).length (iC (M ++ [val]))) := by
              have h6 := hown5
              rw [← iC_appN] at h6
              rw [hLn]
              exact h6
            have hS5 : Hid (w5.ownsRow w0.heap.size 3 1 (.slice xS Y.length cS) Y.length (iC Y)) := Si.out.kept hg5 (by
              cases hv : (Value.slice xS Y.length cS).ownBlock with
              | none => exact .inl rfl
              | some q => exact .inr (fun e => hnx.out q hv e.symm))
            have hnx5 : Hid (∀ k, (Value.slice xS Y.length cS).ownBlock = some k → (Value.slice z5 (M ++ [val]).length c5).ownBlock ≠ some k) := by
              intro q hq e
              rw [hLn] at e
              rcases hwhere5 with h7 | h7
              · rw [h7] at e
                exact hnx.out q hq e
              · rw [h7] at e
                have h8 := (Si.out.lt q hq).2
                injection e with e
                have h9 : (wi.alloc (.cells #[.int .i64 val] 3)).heap.size = wi.heap.size + 1 := World.size_alloc _ _
                have h10 : (wi.alloc (.cells #[.int .i64 val] 3)).drew.heap.size = (wi.alloc (.cells #[.int .i64 val] 3)).heap.size := rfl
                omega
            have T5 := Lib.hid (Ti.out.grown hg5 (fun k hk => by have := (hlow.out k hk).1; omega))
            have hs5 := hg5.size
            have hO6 := Lib.hid (hO5.out.kept (grown_setU w5 ⟨u7, 1, none⟩ (.slice z5 (M.length + 1) c5)) (by
              cases hv : (Value.slice z5 (M ++ [val]).length c5).ownBlock with
              | none => exact .inl rfl
              | some q => exact .inr (fun e => wb_apart V5.out hO5.out (by decide) (by rw [hv, e]))))
            have hS6 := Lib.hid (hS5.out.kept (grown_setU w5 ⟨u7, 1, none⟩ (.slice z5 (M.length + 1) c5)) (by
              cases hv : (Value.slice xS Y.length cS).ownBlock with
              | none => exact .inl rfl
              | some q => exact .inr (fun e => wb_apart V5.out hS5.out (by decide) (by rw [hv, e]))))
            have T6 := Lib.hid (T5.out.grown (grown_setU w5 ⟨u7, 1, none⟩ (.slice z5 (M.length + 1) c5)) (fun k hk => by injection hk with hk; simp at hk; omega))
            have V6 : Hid (Wb (w5.setCell ⟨u7, 1, none⟩ (.slice z5 (M.length + 1) c5)) u7 27 #[.slice xS Y.length cS, .slice z5 (M ++ [val]).length c5]) := by rw [hLn]; exact V5.out.put 1 _
            have hB6 : Below w.heap.size w (w5.setCell ⟨u7, 1, none⟩ (.slice z5 (M.length + 1) c5)) := Below.setCell (p := ⟨u7, 1, none⟩) hB5 (by show w.heap.size ≤ u7; omega) _
            clear hgrow5 hwhere5 hgr hown5 g0 g1 ara arb arc hg5 c50 c51 hLn
            go_wp2
            go_roundw
            case rel => exact ⟨i + 1, z5, c5, by omega, by go_num, (by rw [hsn.out]; exact V6), hS6, (by rw [hsn.out]; exact hO6), (by rw [hsn.out]; exact hnx5), T6, hB6, by rw [World.size_setCell]; omega⟩
            case measure => simp [intOf]; omega
    · have hij : i = n := by omega
      subst hij
      rw [hall.out] at hV hC hnx
      have v2 : wr.cell? ⟨u7, 1, none⟩ = some (.slice zC (ctL Z F C).length cC) := (hV.out.read 1).trans rfl
      have z0 : wr.cell? ⟨w.heap.size + 1, 0, none⟩ = some (.slice none 0 0) := (hT.out.2.read 0).trans rfl
      have z1 : wr.cell? ⟨w.heap.size + 1, 1, none⟩ = some (.slice none 0 0) := (hT.out.2.read 1).trans rfl
      have z2 := hT.out.2.free 0
      have z3 := hT.out.2.free 1
      have z4 := hT.out.2.inside
      go_wp2
      refine bodyPost_ret (v := .agg #[.slice xS Y.length cS, .slice zC (ctL Z F C).length cC]) (by simp [results, Try.results77, go_sem, *]) rfl ?_
      refine ⟨xS, cS, zC, cC, rfl, OwU.more (lo := w0.heap.size) (owU_of ?_ ?_ ?_ hnx.out) (by omega) (Nat.le_refl _), ?_⟩
      · simp only [World.size_setCell]
        omega
      · exact ((hS.out.kept (grown_setU _ _ _) (own_ne_lt hS.out (by show w.heap.size + 1 < w0.heap.size; omega))).kept (grown_setU _ _ _) (own_ne_lt hS.out (by show w.heap.size + 1 < w0.heap.size; omega)))
      · exact ((hC.out.kept (grown_setU _ _ _) (own_ne_lt hC.out (by show w.heap.size + 1 < w0.heap.size; omega))).kept (grown_setU _ _ _) (own_ne_lt hC.out (by show w.heap.size + 1 < w0.heap.size; omega)))
      · repeat (refine Below.setCell ?_ (by simp; try omega) _)
        exact hB
end Go.Proofs.Ytnmpigedhpdenaa

namespace Go.Proofs.Ytnmpigedhpdenaa
open Go.RowKit
set_option maxRecDepth 100000

theorem ft_self {Z : List Int} (h : ∀ z ∈ Z, 0 ≤ z) : FtC Z Z := ⟨Nat.le_refl _, fun d z x hz hx => by
  rw [hz] at hx
  cases hx
  exact ⟨h z (List.mem_of_getElem? hz), Int.le_refl _⟩⟩
theorem slF_get {Z : List Int} {m i : Int} {d : Nat} (h : d < Z.length) (hne : d ≠ m.toNat) : (slF Z m i)[d]? = some (-1) := by
  unfold slF
  rw [List.getElem?_set, if_neg (fun e => hne e.symm), List.getElem?_replicate, if_pos h]
theorem slF_get2 {Z : List Int} {m i : Int} (h : m.toNat < Z.length) : (slF Z m i)[m.toNat]? = some i := by
  unfold slF
  rw [List.getElem?_set, if_pos rfl, if_pos (by rw [List.length_replicate]; exact h)]
theorem opD_step {F : List Int} {j : Nat} {f : Int} (h : F[j]? = some f) : opD (F.take (j + 1)) 0 = opD (F.take j) 0 ++ (if f = -1 then [(j : Int)] else []) := by
  have hj := (List.getElem?_eq_some_iff.1 h).1
  rw [take_snoc h, opD_snoc, List.length_take, Nat.min_eq_left (by omega), Int.zero_add]
theorem opD_le (F : List Int) : ∀ k, (opD F k).length ≤ F.length := by
  induction F with
  | nil => intro k; exact Nat.le_refl _
  | cons f g ih =>
    intro k
    have := ih (k + 1)
    unfold opD
    split <;> simp only [List.length_cons] <;> omega
set_option maxHeartbeats 16000000 in
theorem sMg_any (x y z : Option Addr) (c d e : Nat) (Z C D : List Int) (w : World) (h : CIn w x y Z C) (hD : IIn w z D) (hcZ : Z.length ≤ c) (hnZ : x = none → c = 0) (_ : C.length ≤ d) (_ : y = none → d = 0) :
    Calls Try.prog 33 #[.agg #[.slice x Z.length c, .slice y C.length d], .slice z D.length e] w (RetCu (mgR Z C D) (mgB Z C D) w) := by
  have hDh := Lib.hid hD
  have hDl := hD.1
  have hZl := h.1.1
  clear hD
  have hh := Lib.hid h
  clear h
  have t0n := Fr2.new w x Z.length c y C.length d
  obtain ⟨w0, hw0⟩ : ∃ w0, w0 = (w.alloc (.cells #[.slice x Z.length c, .slice y C.length d] 27)).alloc (.cells #[.slice none 0 0, .slice none 0 0] 27) := ⟨_, rfl⟩
  have B0 : Below w.heap.size w w0 := by rw [hw0]; exact (by repeat (first | exact Below.refl _ _ | assumption | refine Below.drew ?_ | refine below_drewN ?_ _ | refine Below.alloc' ?_ _ | (refine Below.setCell ?_ (by first | omega | (simp; done) | (simp; omega) | exact Below.size (by assumption) | exact Nat.le_trans (Below.size (by assumption)) (by simp)) _) | (refine Below.via' ?_ (by assumption)) | (refine Below.alloc ?_ (by first | omega | (simp; done) | (simp; omega) | exact Below.size (by assumption) | exact Nat.le_trans (Below.size (by assumption)) (by simp)) _) | (refine Below.via ?_ (by assumption) (by first | omega | (simp; done) | (simp; omega) | exact Below.size (by assumption) | exact Nat.le_trans (Below.size (by assumption)) (by simp)))))
  rw [← hw0] at t0n
  have t0 := Lib.hid t0n
  clear t0n
  go_enter Try.func33, Try.ntmps33
  go_wp2_with fail
  rw [← hw0]
  replace hw0 := Lib.hid hw0
  refine (cbGood_any _ _ _ _ Z C _ (hh.out.below B0)).mono ?_
  rintro e1 w1 ⟨rfl, hb1⟩
  have B1 : Below w.heap.size w w1 := Below.via' B0 hb1
  have t1 := Lib.hid (t0.out.below hb1)
  try clear a0a a0b a0c z0a z0b z0c z0d z0e
  clear hb1
  obtain ⟨⟨a1a, a1b, a1c⟩, zz1⟩ := t1.out
  have z1a := (zz1.read 0).trans rfl
  have z1b := (zz1.read 1).trans rfl
  have z1c := zz1.free 0
  have z1d := zz1.free 1
  have z1e := zz1.inside
  clear zz1
  cases hg1 : cgB Z C
  · have hv := Lib.hid (mg_no (mg_no1 D hg1))
    clear hg1
    go_wp2
    refine bodyPost_ret (v := .tuple #[.agg #[.slice none 0 0, .slice none 0 0], .bool false]) (by simp [results, Try.results33, go_sem, *]) rfl (retCu_no hv.out.1 hv.out.2 ?_)
    repeat (refine Below.setCell ?_ (by simp; try omega) _)
    exact B1
  have hgh := Lib.hid hg1
  have hfh := Lib.hid (cg_get hg1).1
  obtain ⟨f1, f2, f3⟩ := cf_get hfh.out
  have hcs := Lib.hid f1
  have hok := Lib.hid (cs_get f1).1
  have hcn := Lib.hid f2
  have h4 := okZ_len hok.out
  have hCl := cf_len hfh.out
  clear hg1 f1 f2 f3
  go_wp2_with fail
  refine (risingR_any _ _ Z.length D _ hZl (hDh.out.below B1)).mono ?_
  rintro e1 w2 ⟨rfl, hb2⟩
  have B2 : Below w.heap.size w w2 := Below.via' B1 hb2
  have t2 := Lib.hid (t1.out.below hb2)
  try clear a1a a1b a1c z1a z1b z1c z1d z1e
  clear hb2
  obtain ⟨⟨a2a, a2b, a2c⟩, zz2⟩ := t2.out
  have z2a := (zz2.read 0).trans rfl
  have z2b := (zz2.read 1).trans rfl
  have z2c := zz2.free 0
  have z2d := zz2.free 1
  have z2e := zz2.inside
  clear zz2
  cases hr : riU (Z.length : Int) 0 D
  · have hv := Lib.hid (mg_no (mg_no2 C hr))
    clear hr
    go_wp2
    refine bodyPost_ret (v := .tuple #[.agg #[.slice none 0 0, .slice none 0 0], .bool false]) (by simp [results, Try.results33, go_sem, *]) rfl (retCu_no hv.out.1 hv.out.2 ?_)
    repeat (refine Below.setCell ?_ (by simp; try omega) _)
    exact B2
  obtain ⟨m1, m2, m3⟩ := mg_all (okZ_nn hok.out) hr
  have hv := Lib.hid (mg_yes hgh.out hr)
  have hcall := cbFrom_any x y z x c d e c Z C (mgF Z D) Z w2 hcs.out hcn.out (hh.out.below B2) (by rw [m2]; exact (hDh.out.below B2).2.2) (hh.out.below B2).1 hcZ hnZ m1 m3 (ft_self (okZ_nn hok.out))
  rw [m2] at hcall
  have hcl := Lib.hid hcall
  have hz5 : w.heap.size + 1 < w2.heap.size := t2.out.2.inside
  clear hr m1 m2 m3 hcall
  go_wp2_with fail
  refine hcl.out.mono ?_
  rintro e5 w5 ⟨x5, c5, z5, d5, rfl, ho5, hb5⟩
  have t5 := Lib.hid (t2.out.below hb5)
  have B5 : Below w.heap.size w w5 := Below.via' B2 hb5
  have ho5h := Lib.hid ho5
  have z5a : w5.cell? ⟨w.heap.size + 1, 0, none⟩ = some (.slice none 0 0) := (t5.out.2.read 0).trans rfl
  have z5b : w5.cell? ⟨w.heap.size + 1, 1, none⟩ = some (.slice none 0 0) := (t5.out.2.read 1).trans rfl
  have z5c := t5.out.2.free 0
  have z5d := t5.out.2.free 1
  have z5e := t5.out.2.inside
  have hs5 := hb5.size
  have hs2 := B2.size
  dsimp only at ho5 ho5h
  clear hb5 ho5 a2a a2b a2c z2a z2b z2c z2d z2e
  go_wp2
  refine bodyPost_ret (v := .tuple #[.agg #[.slice x5 (opZ Z (mgF Z D)).length c5, .slice z5 (ctL Z (mgF Z D) C).length d5], .bool true]) (by simp [results, Try.results33, go_sem, *]) rfl ?_
  refine retCu_yes hv.out.1 hv.out.2 ?_ ?_
  · exact ((ho5h.out.aside _ _ (.inl (by show w.heap.size + 1 < w2.heap.size; omega))).aside _ _ (.inl (by show w.heap.size + 1 < w2.heap.size; omega))).more hs2 (by simp only [World.size_setCell]; exact Nat.le_refl _)
  · repeat (refine Below.setCell ?_ (by simp; try omega) _)
    exact B5
theorem iMg_x (x y z : Option Addr) (c d e : Nat) (Z C D : List Int) (w : World) (h : CIn w x y Z C) (hD : IIn w z D) (_ : Z.length ≤ c) (_ : x = none → c = 0) (_ : C.length ≤ d) (_ : y = none → d = 0) :
    Calls Try.prog 34 #[.agg #[.slice x Z.length c, .slice y C.length d], .slice z D.length e] w (RetCu (mgR Z C D) (mgB Z C D) w) := iMg_any x y z c d e Z C D w h hD
theorem iSl_x (x y : Option Addr) (c d : Nat) (Z C : List Int) (m i : Int) (w : World) (h : CIn w x y Z C) (_ : Z.length ≤ c) (_ : x = none → c = 0) (_ : C.length ≤ d) (_ : y = none → d = 0) :
    Calls Try.prog 36 #[.agg #[.slice x Z.length c, .slice y C.length d], .int .i64 m, .int .i64 i] w (RetCu (slR Z C m i) (slB Z C m i) w) := iSl_any x y c d Z C m i w h
theorem mgR_l1 {Z C D : List Int} (h : Z.length ≤ 1048576) : (mgR Z C D).1.length ≤ 1048576 := by
  unfold mgR
  split
  · exact cut_l1 Z _ h
  · simp
theorem slR_l1 {Z C : List Int} {m i : Int} (h : Z.length ≤ 1048576) : (slR Z C m i).1.length ≤ 1048576 := by
  unfold slR
  split
  · exact cut_l1 Z _ h
  · simp
theorem ctL_len {Z F C : List Int} (h : okF Z F) (hz : ∀ z ∈ Z, 0 ≤ z) (hl : (C.length : Int) = cnC Z) : (ctL Z F C).length ≤ C.length := by rw [← ctU_all h hz hl]; exact ctU_len _ _ _ _
theorem mgR_l2 {Z C D : List Int} (h : C.length ≤ 1048576) : (mgR Z C D).2.length ≤ 1048576 := by
  cases hb : mgB Z C D
  · rw [(mg_no hb).2]
    simp
  · unfold mgB at hb
    rw [Bool.and_eq_true] at hb
    rw [(mg_yes hb.1 hb.2).2]
    obtain ⟨f1, f2, -⟩ := cf_get (cg_get hb.1).1
    have hz := okZ_nn (cs_get f1).1
    have := ctL_len (C := C) (mg_all hz hb.2).1 hz f2
    show (ctL Z (mgF Z D) C).length ≤ _
    omega
theorem slR_l2 {Z C : List Int} {m i : Int} (h : C.length ≤ 1048576) : (slR Z C m i).2.length ≤ 1048576 := by
  cases hb : slB Z C m i
  · rw [(sl_no hb).2]
    simp
  · have hb0 := hb
    unfold slB at hb
    rw [Bool.and_eq_true, Bool.and_eq_true] at hb
    rw [(sl_yes hb.1 hb.2.1 hb.2.2).2]
    obtain ⟨f1, f2, -⟩ := cf_get (cg_get hb.1).1
    have hz := okZ_nn (cs_get f1).1
    obtain ⟨m1, m2⟩ := (inB_iff _ _ _).1 hb.2.1
    have hm : Z[m.toNat]? = some (Z[m.toNat]'(by omega)) := List.getElem?_eq_getElem _
    have hi := (inB_iff _ _ _).1 hb.2.2
    rw [getD_at hm] at hi
    have := ctL_len (C := C) (sl_all hm hi.1 hi.2).1 hz f2
    show (ctL Z (slF Z m i) C).length ≤ _
    omega
end Go.Proofs.Ytnmpigedhpdenaa

namespace Go.Proofs.Ytnmpigedhpdenaa
open Go.RowKit
set_option maxRecDepth 100000

set_option maxHeartbeats 16000000 in
theorem sGc_any (x y z : Option Addr) (c d e : Nat) (Z C G : List Int) (m : Int) (w : World) (h : CIn w x y Z C) (hG : IIn w z G) (hcZ : Z.length ≤ c) (hnZ : x = none → c = 0) (_ : C.length ≤ d) (_ : y = none → d = 0) :
    Calls Try.prog 37 #[.agg #[.slice x Z.length c, .slice y C.length d], .int .i64 m, .slice z G.length e] w (RetCu (gcR Z C m G) (gcB Z C m G) w) := by
  have hGh := Lib.hid hG
  have hGl := hG.1
  have hZl := h.1.1
  clear hG
  have hh := Lib.hid h
  clear h
  have t0n := Fr2.new w x Z.length c y C.length d
  obtain ⟨w0, hw0⟩ : ∃ w0, w0 = (w.alloc (.cells #[.slice x Z.length c, .slice y C.length d] 27)).alloc (.cells #[.slice none 0 0, .slice none 0 0] 27) := ⟨_, rfl⟩
  have B0 : Below w.heap.size w w0 := by rw [hw0]; exact (by repeat (first | exact Below.refl _ _ | assumption | refine Below.drew ?_ | refine below_drewN ?_ _ | refine Below.alloc' ?_ _ | (refine Below.setCell ?_ (by first | omega | (simp; done) | (simp; omega) | exact Below.size (by assumption) | exact Nat.le_trans (Below.size (by assumption)) (by simp)) _) | (refine Below.via' ?_ (by assumption)) | (refine Below.alloc ?_ (by first | omega | (simp; done) | (simp; omega) | exact Below.size (by assumption) | exact Nat.le_trans (Below.size (by assumption)) (by simp)) _) | (refine Below.via ?_ (by assumption) (by first | omega | (simp; done) | (simp; omega) | exact Below.size (by assumption) | exact Nat.le_trans (Below.size (by assumption)) (by simp)))))
  rw [← hw0] at t0n
  have t0 := Lib.hid t0n
  clear t0n
  go_enter Try.func37, Try.ntmps37
  go_wp2_with fail
  rw [← hw0]
  replace hw0 := Lib.hid hw0
  refine (cbGood_any _ _ _ _ Z C _ (hh.out.below B0)).mono ?_
  rintro e1 w1 ⟨rfl, hb1⟩
  have B1 : Below w.heap.size w w1 := Below.via' B0 hb1
  have t1 := Lib.hid (t0.out.below hb1)
  try clear a0a a0b a0c z0a z0b z0c z0d z0e
  clear hb1
  obtain ⟨⟨a1a, a1b, a1c⟩, zz1⟩ := t1.out
  have z1a := (zz1.read 0).trans rfl
  have z1b := (zz1.read 1).trans rfl
  have z1c := zz1.free 0
  have z1d := zz1.free 1
  have z1e := zz1.inside
  clear zz1
  cases hg1 : cgB Z C
  · have hv := Lib.hid (gc_no (gc_no1 m G hg1))
    clear hg1
    go_wp2
    refine bodyPost_ret (v := .tuple #[.agg #[.slice none 0 0, .slice none 0 0], .bool false]) (by simp [results, Try.results37, go_sem, *]) rfl (retCu_no hv.out.1 hv.out.2 ?_)
    repeat (refine Below.setCell ?_ (by simp; try omega) _)
    exact B1
  have hgh := Lib.hid hg1
  have hfh := Lib.hid (cg_get hg1).1
  obtain ⟨f1, f2, f3⟩ := cf_get hfh.out
  have hcs := Lib.hid f1
  have hok := Lib.hid (cs_get f1).1
  have hcn := Lib.hid f2
  have hin := Lib.hid f3
  have h4 := okZ_len hok.out
  have hCl := cf_len hfh.out
  clear hg1 f1 f2 f3
  go_wp2_with fail
  refine (l1In_any _ _ _ _).mono ?_
  rintro e1 w2 ⟨rfl, rfl⟩
  cases hr : inB m 0 ((Z.length : Int) - 1)
  · have hv := Lib.hid (gc_no (gc_no2 C G hr))
    clear hr
    go_wp2
    refine bodyPost_ret (v := .tuple #[.agg #[.slice none 0 0, .slice none 0 0], .bool false]) (by simp [results, Try.results37, go_sem, *]) rfl (retCu_no hv.out.1 hv.out.2 ?_)
    repeat (refine Below.setCell ?_ (by simp; try omega) _)
    exact B1
  have hrh := Lib.hid hr
  obtain ⟨m1, m2⟩ := (inB_iff _ _ _).1 hr
  obtain ⟨k, rfl⟩ : ∃ k : Nat, m = (k : Int) := ⟨m.toNat, by omega⟩
  have hkl : k < Z.length := by omega
  obtain ⟨bl, off, zv, rfl, hbl, hZk, hc0⟩ := (hh.out.below B1).1.2.2.int hkl
  have hkl' : (k : Int) < (Z.length : Int) := by omega
  have hgd : Z.getD ((k : Int).toNat) 0 = zv := by rw [Int.toNat_natCast, getD_at hZk]
  have hzr := okZ_at hok.out hZk
  clear hr m2
  by_cases hgl : (G.length : Int) = zv
  rotate_left
  · have hv := Lib.hid (gc_no (gc_no3 (d := (k : Int)) C (by rw [hgd]; exact hgl)))
    have heb2 : ((G.length : Int) != zv) = true := by simpa using hgl
    clear hgl hgd
    replace hZk := Lib.hid hZk
    go_wp2
    refine bodyPost_ret (v := .tuple #[.agg #[.slice none 0 0, .slice none 0 0], .bool false]) (by simp [results, Try.results37, go_sem, *]) rfl (retCu_no hv.out.1 hv.out.2 ?_)
    repeat (refine Below.setCell ?_ (by simp; try omega) _)
    exact B1
  have heb2 : ((G.length : Int) != zv) = false := by rw [hgl]; simp
  have hglh := Lib.hid hgl
  have hgdh := Lib.hid hgd
  have hZkh := Lib.hid hZk
  have hGne : Hid (G ≠ []) := fun e9 => by rw [e9] at hgl; simp at hgl; omega
  have hG30 : G.length ≤ 1000 := by omega
  clear hgl hgd hZk
  go_wp2_with fail
  refine (cbGroups_any _ _ G _ hGne.out hG30 (hGh.out.below B1).2.2).mono ?_
  rintro e1 w2 ⟨rfl, hb2⟩
  have B2 : Below w.heap.size w w2 := Below.via' B1 hb2
  have t2 := Lib.hid (t1.out.below hb2)
  try clear a1a a1b a1c z1a z1b z1c z1d z1e
  clear hb2
  obtain ⟨⟨a2a, a2b, a2c⟩, zz2⟩ := t2.out
  have z2a := (zz2.read 0).trans rfl
  have z2b := (zz2.read 1).trans rfl
  have z2c := zz2.free 0
  have z2d := zz2.free 1
  have z2e := zz2.inside
  clear zz2
  cases hgb : cgrB G
  · have hv := Lib.hid (gc_no (gc_no4 Z C (k : Int) hgb))
    have h0 : cbN G = 0 := cbN_no (by rw [hgb]; exact Bool.false_ne_true)
    rw [h0]
    clear hgb h0
    go_wp2
    refine bodyPost_ret (v := .tuple #[.agg #[.slice none 0 0, .slice none 0 0], .bool false]) (by simp [results, Try.results37, go_sem, *]) rfl (retCu_no hv.out.1 hv.out.2 ?_)
    repeat (refine Below.setCell ?_ (by simp; try omega) _)
    exact B2
  obtain ⟨M, hM⟩ : ∃ M : Nat, cgrN G = (M : Int) := ⟨(cgrN G).toNat, by have := cgrN_bd G; omega⟩
  have hcb : cbN G = (M : Int) := by unfold cbN; rw [hgb, ← hM]; rfl
  rw [hcb]
  have hgbh := Lib.hid hgb
  have hMg : gcM G = M := by unfold gcM; omega
  have hga := Lib.hid (fun (j : Nat) (v : Int) (hj : G[j]? = some v) => (by have := cgr_at hgb hj; rw [hMg] at this; exact this : 0 ≤ v ∧ v < (M : Int) ∧ (M : Int) ≤ G.length))
  have hg0 := hga.out 0 (G[0]'(by have := hglh.out; omega)) (List.getElem?_eq_getElem _)
  have hM1 : 1 ≤ (M : Int) := by omega
  have hMz : (M : Int) ≤ zv := by have := hglh.out; omega
  obtain ⟨hsY0, hnY⟩ := set_many hcs.out hZkh.out hM1 hMz
  obtain ⟨Y, hY⟩ : ∃ Y, Y = Z.set k (M : Int) := ⟨_, rfl⟩
  rw [← hY] at hsY0 hnY
  have hsY := Lib.hid hsY0
  have hYl : Y.length = Z.length := by rw [hY, List.length_set]
  have hokY := Lib.hid (cs_get hsY0).1
  obtain ⟨n, hn⟩ : ∃ n : Nat, cnC Y = (n : Int) := ⟨(cnC Y).toNat, by have := (cn_ok hokY.out).1; omega⟩
  have hn2 : n ≤ 2000 := by have := (cs_get hsY0).2; omega
  have hYh := Lib.hid hY
  have hYlh := Lib.hid hYl
  have hnh := Lib.hid hn
  have hMgh := Lib.hid hMg
  have hMh := Lib.hid hM
  have hl2 : w.heap.size + 1 < w2.heap.size := t2.out.2.inside
  clear hgb hMg hg0 hsY0 hnY hY hYl hn hM hc0
  have hcbh := Lib.hid hcb
  have hM0 : ¬ (M : Int) = 0 := by omega
  have hMb : ((M : Int) == 0) = false := by rw [beq_eq_false_iff_ne]; exact hM0
  clear hcb
  go_wp2_with fail
  refine (l1Own_any _ c Z _ hZl hcZ hnZ (hh.out.below B2).1.2.2).mono ?_
  rintro e1 w4 ⟨vS, rfl, hoS, hb4⟩
  obtain ⟨xS, cS, rfl, -, -⟩ := (OwR.of hoS).form
  obtain ⟨gS, cS2, he⟩ := own_some hoS (by omega)
  cases he
  have B4 : Below w.heap.size w w4 := Below.via' B2 hb4
  have t4 := Lib.hid (t2.out.below hb4)
  have hl4 := hb4.size
  obtain ⟨g10, hg10⟩ : ∃ g10, g10 = w4.heap.size := ⟨_, rfl⟩
  obtain ⟨wa, hwa⟩ : ∃ wa, wa = w4.alloc (.cells #[.slice (some ⟨gS, 0, none⟩) Z.length cS, .slice none 0 0] 27) := ⟨_, rfl⟩
  have Va : Hid (Wb wa g10 27 #[.slice (some ⟨gS, 0, none⟩) Z.length cS, .slice none 0 0]) := by rw [hwa, hg10]; exact Wb.new w4 27 #[.slice (some ⟨gS, 0, none⟩) Z.length cS, .slice none 0 0]
  have Sa := Lib.hid (show wa.ownsRow w2.heap.size 3 1 (.slice (some ⟨gS, 0, none⟩) Z.length cS) Z.length (iC Z) by rw [hwa]; exact hoS.alloc _)
  have Ba : Below w.heap.size w wa := by rw [hwa]; exact B4.alloc B4.size _
  have ta := Lib.hid (show Fr2 wa w.heap.size (some ⟨bl, off, none⟩) Z.length c y C.length d by rw [hwa]; exact t4.out.below ((Below.refl _ _).alloc (Nat.le_refl _) _))
  have hg3 : w2.heap.size ≤ g10 := by omega
  have ga0 : wa.cell? ⟨g10, 0, none⟩ = some (.slice (some ⟨gS, 0, none⟩) Z.length cS) := (Va.out.read 0).trans rfl
  have ga4 := Va.out.inside
  have hwah := Lib.hid hwa
  have hg10h := Lib.hid hg10
  clear hoS hb4 t4 B4 a2a a2b a2c z2a z2b z2c z2d z2e
  go_upto_region 4 with fail
  rw [← hwa, ← hg10]
  clear hwa hg10
  go_cut [] (fun wx => Wb wx g10 27 #[.slice (some ⟨gS, 0, none⟩) Z.length cS, .slice none 0 0] ∧ wx.ownsRow w2.heap.size 3 1 (.slice (some ⟨gS, 0, none⟩) Z.length cS) Z.length (iC Y) ∧ Fr2 wx w.heap.size (some ⟨bl, off, none⟩) Z.length c y C.length d ∧ Below w.heap.size w wx)
  case first =>
    go_region_law (first
      | (go_simp; go_at_call 82; refine (cbGroups_any _ _ G _ hGne.out hG30 ((hGh.out.below Ba).2.2.below (by exact (by repeat (first | exact Below.refl _ _ | assumption | refine Below.drew ?_ | refine below_drewN ?_ _ | refine Below.alloc' ?_ _ | (refine Below.setCell ?_ (by first | omega | (simp; done) | (simp; omega) | exact Below.size (by assumption) | exact Nat.le_trans (Below.size (by assumption)) (by simp)) _) | (refine Below.via' ?_ (by assumption)) | (refine Below.alloc ?_ (by first | omega | (simp; done) | (simp; omega) | exact Below.size (by assumption) | exact Nat.le_trans (Below.size (by assumption)) (by simp)) _) | (refine Below.via ?_ (by assumption) (by first | omega | (simp; done) | (simp; omega) | exact Below.size (by assumption) | exact Nat.le_trans (Below.size (by assumption)) (by simp)))))))).mono ?_; rintro e1 w5 ⟨rfl, hb5⟩; rw [hcbh.out]; (have hbx : Hid (Below wa.heap.size wa w5) := ((Below.refl _ wa).drew).trans hb5); (have V5 := Lib.hid (Va.out.kept hbx.out)); (have r0 : w5.cell? ⟨g10, 0, none⟩ = some (.slice (some ⟨gS, 0, none⟩) Z.length cS) := (V5.out.read 0).trans rfl); (have r4 := V5.out.inside); (have S5 := Lib.hid (own_below Sa.out hbx.out)); (obtain ⟨u5, hu5, s0⟩ := own_cell S5.out (j := k) (by omega)); (have s2 := S5.out.frozenAt k); (have s4 := (own_lt S5.out).2); clear hb5))
    all_goals
      obtain ⟨w6, hw6⟩ : ∃ w6, w6 = w5.setCell ⟨gS, k, none⟩ (.int .i64 (M : Int)) := ⟨_, rfl⟩
      have B6 : Below w.heap.size w w6 := by rw [hw6]; exact Below.setCell (p := ⟨gS, k, none⟩) (Below.via' Ba hbx.out) (by have := (own_lt Sa.out).1; have := B2.size; show w.heap.size ≤ gS; omega) _
      have V6 : Hid (Wb w6 g10 27 #[.slice (some ⟨gS, 0, none⟩) Z.length cS, .slice none 0 0]) := by rw [hw6]; exact V5.out.off ⟨gS, k, none⟩ (fun e9 => wb_apart V5.out S5.out (by decide) (by rw [e9]; rfl)) _
      have S6 : Hid (w6.ownsRow w2.heap.size 3 1 (.slice (some ⟨gS, 0, none⟩) Z.length cS) Z.length (iC Y)) := by
        have h9 := (S5.out.stored k (.int .i64 (M : Int))).1
        rw [← iC_setA, ← hYh.out] at h9
        rw [hw6]
        exact h9
      have t6 : Hid (Fr2 w6 w.heap.size (some ⟨bl, off, none⟩) Z.length c y C.length d) := by
        rw [hw6]
        exact (ta.out.below hbx.out).grown (grown_setU w5 ⟨gS, k, none⟩ _) (fun q hq => by injection hq with hq; simp at hq; have := (own_lt Sa.out).1; omega)
      go_wp2_with fail
      go_meet
      rw [← hw6]
      exact ⟨V6.out, S6.out, t6.out, B6⟩
  obtain ⟨V6, S6, t6, B6⟩ := hcut
  obtain ⟨w6, rfl⟩ : ∃ u : World, u = wc := ⟨_, rfl⟩
  replace V6 := Lib.hid V6
  replace S6 := Lib.hid S6
  replace t6 := Lib.hid t6
  clear Va Sa Ba ta ga0 ga4
  have hYi : Hid (IIn w6 (some ⟨gS, 0, none⟩) Y) := ⟨by have := hYlh.out; omega, fun v hv => by have := okZ_mem hokY.out hv; unfold IsI64; omega, Rd.of_own S6.out⟩
  have hcc := cbCount_any (some ⟨gS, 0, none⟩) cS Y w6 hYi.out
  rw [hYlh.out, cbV_yes hsY.out, hnh.out] at hcc
  have y0 : w6.cell? ⟨g10, 0, none⟩ = some (.slice (some ⟨gS, 0, none⟩) Z.length cS) := (V6.out.read 0).trans rfl
  have y1 : w6.cell? ⟨g10, 1, none⟩ = some (.slice none 0 0) := (V6.out.read 1).trans rfl
  have y2 := V6.out.free 1
  have y3 := V6.out.inside
  have hmk := fun (W : World) => run_make_row' (P := Try.prog) 22 3 (.int .i64 0) 8 Try.underlying22 Try.infoInt rfl .i64 .i64 n (by omega) (by omega) W
  go_wp2_with fail
  refine hcc.mono ?_
  rintro e1 w7 ⟨rfl, rfl⟩
  obtain ⟨⟨a5a, a5b, a5c⟩, -⟩ := t6.out
  go_upto_region 6 with fail
  obtain ⟨gC, hgC⟩ : ∃ gC, gC = w6.heap.size := ⟨_, rfl⟩
  rw [← hgC]
  obtain ⟨w7, hw7⟩ : ∃ w7, w7 = (w6.setCell ⟨g10, 1, none⟩ (.slice (some ⟨gC, 0, none⟩) n n)).alloc (.cells (madeCells #[.int .i64 0] n) 3) := ⟨_, rfl⟩
  rw [← hw7]
  have hl5 : g10 < gC := by rw [hgC]; exact V6.out.inside
  have B7 : Below w.heap.size w w7 := by rw [hw7]; exact (Below.setCell (p := ⟨g10, 1, none⟩) B6 (by show w.heap.size ≤ g10; omega) _).alloc (by simp; have := B6.size; omega) _
  have V7 : Hid (Wb w7 g10 27 #[.slice (some ⟨gS, 0, none⟩) Z.length cS, .slice (some ⟨gC, 0, none⟩) n n]) := by rw [hw7]; exact (V6.out.put 1 (.slice (some ⟨gC, 0, none⟩) n n)).kept ((Below.refl _ _).alloc (Nat.le_refl _) _)
  have S7 : Hid (w7.ownsRow w2.heap.size 3 1 (.slice (some ⟨gS, 0, none⟩) Z.length cS) Z.length (iC Y)) := by
    rw [hw7]
    exact (S6.out.kept (grown_setU w6 ⟨g10, 1, none⟩ _) (.inr (fun e => wb_apart V6.out S6.out (by decide) e))).alloc _
  have C7 : Hid (w7.ownsRow w2.heap.size 3 1 (.slice (some ⟨gC, 0, none⟩) n n) n (iC (acU Z C k zv M G n 0))) := by
    rw [hw7]
    exact made_ownC (w6.setCell ⟨g10, 1, none⟩ (.slice (some ⟨gC, 0, none⟩) n n)) w2.heap.size gC n (by rw [World.size_setCell]; exact hgC.symm) (by omega) (by omega)
  have t7 : Hid (Fr2 w7 w.heap.size (some ⟨bl, off, none⟩) Z.length c y C.length d) := by
    rw [hw7]
    exact (t6.out.grown (grown_setU w6 ⟨g10, 1, none⟩ _) (fun q hq => by injection hq with hq; simp at hq; omega)).below ((Below.refl _ _).alloc (Nat.le_refl _) _)
  have hsc : gS ≠ gC := by have := (own_lt S6.out).2; omega
  have hs7 : gC < w7.heap.size := (own_lt C7.out).2
  have hcl : n = (acU Z C k zv M G n 0).length := (acU_len _ _ _ _ _ _ _ 0).symm
  have hgCh := Lib.hid hgC
  have hw7h := Lib.hid hw7
  clear a5a a5b a5c y0 y1 y2 y3 hmk hcc V6 S6 t6 B6 hgC hw7 hcl hYi
  obtain ⟨⟨a7a, a7b, a7c⟩, -⟩ := t7.out
  go_wp2
  clear a7a a7b a7c
  go_loopw [58] (fun q wr => ∃ i : Nat, i ≤ C.length ∧ q = .int .i64 i ∧ Hid (Wb wr g10 27 #[.slice (some ⟨gS, 0, none⟩) Z.length cS, .slice (some ⟨gC, 0, none⟩) n n]) ∧ Hid (wr.ownsRow w2.heap.size 3 1 (.slice (some ⟨gS, 0, none⟩) Z.length cS) Z.length (iC Y)) ∧ Hid (wr.ownsRow w2.heap.size 3 1 (.slice (some ⟨gC, 0, none⟩) n n) n (iC (acU Z C k zv M G n i))) ∧ Hid (Fr2 wr w.heap.size (some ⟨bl, off, none⟩) Z.length c y C.length d) ∧ Below w.heap.size w wr ∧ gC < wr.heap.size) (fun q _ => C.length - (intOf q).toNat)
  case atStart => exact ⟨0, by omega, by go_num, V7.out, S7.out, C7.out, t7.out, B7, hs7⟩
  case round =>
    clear V7 S7 C7 t7 B7 hs7
    obtain ⟨i, hi, rfl, hV, hS, hC, hT, hB, hsz⟩ := hrel
    obtain ⟨⟨ara, arb, arc⟩, -⟩ := hT.out
    by_cases hlt : i < C.length
    · obtain ⟨bC, oC, n0, rfl, hbC, hCi, hcC⟩ := (hh.out.below hB).2.2.2.int hlt
      have hlt' : (i : Int) < (C.length : Int) := by omega
      have hi0 : (0 : Int) ≤ (i : Int) := by omega
      replace hCi := Lib.hid hCi
      go_wp2_with fail
      refine (cbIndices_any _ _ Z i _ hok.out (by omega) (by omega) (hh.out.below hB).1).mono ?_
      rintro e1 w9 ⟨rfl, hoX, hb9⟩
      obtain ⟨gP, hgP⟩ : ∃ gP, gP = wr.heap.size := ⟨_, rfl⟩
      rw [← hgP] at hoX ⊢
      have B9 : Below w.heap.size w w9 := Below.via' hB hb9
      have V9 := Lib.hid (hV.out.kept hb9)
      have S9 := Lib.hid (own_below hS.out hb9)
      have C9 := Lib.hid (own_below hC.out hb9)
      have T9 := Lib.hid (hT.out.below hb9)
      obtain ⟨v, hve⟩ : ∃ v, (dgL Z (i : Int))[k]? = some v := ⟨_, List.getElem?_eq_getElem (by rw [dgL_len]; exact hkl)⟩
      have hvr := (dg_fit (okZ_nn hok.out) (i : Int)).2 k zv v hZkh.out hve
      obtain ⟨u0, hu0, p0⟩ := own_cell hoX (j := k) (by omega)
      obtain rfl : u0 = .int .i64 v := iC_atI hve hu0
      have p2 := hoX.frozenAt k
      have p4 := (own_lt hoX).2
      obtain ⟨b9l, o9l, z9, he9, hb9l, hZ9, zc9⟩ := (hh.out.below B9).1.2.2.int hkl
      injection he9 with he9
      injection he9 with he9 he99
      subst he9 he99
      obtain rfl : z9 = zv := Option.some.inj (hZ9.symm.trans hZkh.out)
      obtain ⟨⟨a9a, a9b, a9c⟩, -⟩ := T9.out
      have hk0 : (0 : Int) ≤ (k : Int) := by omega
      have hveh := Lib.hid hve
      have hX9 := Lib.hid hoX
      have hgPh := Lib.hid hgP
      replace hZ9 := Lib.hid hZ9
      clear hoX hve hb9 ara arb arc hu0 hgP
      have hYk : Y[k]? = some (M : Int) := by rw [hYh.out, List.getElem?_set, if_pos rfl, if_pos hkl]
      obtain ⟨uy, huy, s0⟩ := own_cell S9.out (j := k) (by omega)
      obtain rfl : uy = .int .i64 (M : Int) := iC_atI hYk huy
      have s4 := (own_lt S9.out).2
      have v0 : w9.cell? ⟨g10, 0, none⟩ = some (.slice (some ⟨gS, 0, none⟩) Z.length cS) := (V9.out.read 0).trans rfl
      have v4 := V9.out.inside
      clear hYk huy
      by_cases hvz : v = z9
      · have hvb : (v == z9) = true := by rw [beq_iff_eq]; exact hvz
        go_upto_region 10 with fail
        go_region_held3 (fun w' => Below (w9).heap.size (w9) w' ∧ (∀ b o, b < (w9).heap.size → w'.cell? ⟨b, o, none⟩ = (w9).cell? ⟨b, o, none⟩)) (first | exact keep_of (Below.refl _ _) | ((try go_split_ands); exact keep_of (by repeat (first | exact Below.refl _ _ | assumption | refine Below.drew ?_ | refine below_drewN ?_ _ | refine Below.alloc' ?_ _ | (refine Below.setCell ?_ (by first | omega | (simp; done) | (simp; omega) | exact Below.size (by assumption) | exact Nat.le_trans (Below.size (by assumption)) (by simp)) _) | (refine Below.via' ?_ (by assumption)) | (refine Below.alloc ?_ (by first | omega | (simp; done) | (simp; omega) | exact Below.size (by assumption) | exact Nat.le_trans (Below.size (by assumption)) (by simp)) _) | (refine Below.via ?_ (by assumption) (by first | omega | (simp; done) | (simp; omega) | exact Below.size (by assumption) | exact Nat.le_trans (Below.size (by assumption)) (by simp))))))) (fail); rename_i hH; obtain ⟨hb3, hcl3⟩ := hH; have hz3 := hb3.size; (try simp at hz3); (try (have hly3 := Nat.lt_of_succ_le hz3)); (try (have hlx3 := Nat.lt_of_succ_lt hly3)); (try (have hlw3 := Nat.lt_of_succ_lt hlx3)); (try (have hle3 := Nat.le_of_lt hly3)); (try (have hya3 : w.heap.size < w3.heap.size := by omega)); (try (have hyb3 : w.heap.size + 1 < w3.heap.size := by omega)); (try (have hyc3 : w.heap.size + 1 + 1 < w3.heap.size := by omega)); (try (have hyd3 : wa.heap.size < w3.heap.size := by omega))
        go_upto_region 13 with fail
        obtain ⟨ws, hws⟩ : ∃ ws, ws = w9.setCell ⟨gP, k, none⟩ (.int .i64 ((M : Int))) := ⟨_, rfl⟩
        obtain ⟨w10, hw10⟩ : ∃ w10, w10 = ws.drew := ⟨_, rfl⟩
        rw [← hws, ← hw10]
        have hbd : Below ws.heap.size ws w10 := by rw [hw10]; exact Below.drew (Below.refl _ _)
        have hjn : jnL k z9 M G (dgL Z (i : Int)) = (dgL Z (i : Int)).set k ((M : Int)) := by
          unfold jnL
          rw [getD_at hveh.out, (show gzI z9 M G v = (M : Int) by unfold gzI; rw [if_pos hvz])]
        have hjl : (jnL k z9 M G (dgL Z (i : Int))).length = Z.length := by rw [hjn, List.length_set, dgL_len]
        have hftY : FtC Y (jnL k z9 M G (dgL Z (i : Int))) := by
          rw [hYh.out, hjn]
          exact ft_both (dg_fit (okZ_nn hok.out) _) k (by omega) (Int.le_refl _)
        have hix : ixC Y (jnL k z9 M G (dgL Z (i : Int))) = jdT Z k z9 M G (i : Int) := by
          unfold jdT
          rw [hYh.out]
        have hixb := ix_in hftY
        rw [hix, hnh.out] at hixb
        obtain ⟨t, ht⟩ : ∃ t : Nat, jdT Z k z9 M G (i : Int) = (t : Int) := ⟨(jdT Z k z9 M G (i : Int)).toNat, by omega⟩
        have htn : t < n := by omega
        have hgPn : g10 < gP ∧ gC < gP ∧ gS < gP := by have := (own_lt hS.out).2; have := hgPh.out; omega
        have X10 : Hid (w10.ownsRow gP 3 1 (.slice (some ⟨gP, 0, none⟩) Z.length Z.length) Z.length (iC (jnL k z9 M G (dgL Z (i : Int))))) := by
          have h9 := (hX9.out.stored k (.int .i64 ((M : Int)))).1
          rw [← iC_setA, ← hjn, ← hws] at h9
          exact own_below h9 hbd
        have V10 : Hid (Wb w10 g10 27 #[.slice (some ⟨gS, 0, none⟩) Z.length cS, .slice (some ⟨gC, 0, none⟩) n n]) := Wb.kept (by rw [hws]; exact V9.out.off ⟨gP, k, none⟩ (by show g10 ≠ gP; omega) _) hbd
        have S10 : Hid (w10.ownsRow w2.heap.size 3 1 (.slice (some ⟨gS, 0, none⟩) Z.length cS) Z.length (iC Y)) := own_below (by rw [hws]; exact S9.out.kept (grown_setU w9 ⟨gP, k, none⟩ _) (.inr (fun q => by injection q with q; simp at q; omega))) hbd
        have C10 : Hid (w10.ownsRow w2.heap.size 3 1 (.slice (some ⟨gC, 0, none⟩) n n) n (iC (acU Z C k z9 M G n i))) := own_below (by rw [hws]; exact C9.out.kept (grown_setU w9 ⟨gP, k, none⟩ _) (.inr (fun q => by injection q with q; simp at q; omega))) hbd
        have T10 : Hid (Fr2 w10 w.heap.size (some ⟨bl, off, none⟩) Z.length c (some ⟨bC, oC, none⟩) C.length d) := Fr2.below (by rw [hws]; exact T9.out.grown (grown_setU w9 ⟨gP, k, none⟩ _) (fun q hq => by injection hq with hq; simp at hq; have := hT.out.2.inside; have := hgPh.out; omega)) hbd
        have B10 : Below w.heap.size w w10 := Below.via' (by rw [hws]; exact Below.setCell (p := ⟨gP, k, none⟩) B9 (by show w.heap.size ≤ gP; have := hB.size; have := hgPh.out; omega) _) hbd
        obtain ⟨acc, hacc⟩ : ∃ acc, (acU Z C k z9 M G n i)[t]? = some acc := ⟨_, List.getElem?_eq_getElem (by rw [acU_len]; exact htn)⟩
        have hab1 := acU_bd (Z := Z) (d := k) (z := z9) (m := M) (g := G) (n := n) hin.out t i
        rw [getD_at hacc] at hab1
        have hnb := inR_at hin.out hCi.out
        have hst := Lib.hid (acU_step hCi.out ht hacc)
        have hwr : IntKind.i64.wrap (acc + n0) = acc + n0 := IntWalk.i64_in _ (by omega)
        have hcall : ∀ W, Below w10.heap.size w10 W → Calls Try.prog 74 #[.slice (some ⟨gS, 0, none⟩) Z.length cS, .slice (some ⟨gP, 0, none⟩) Z.length Z.length] W fun e w' => e = .returned (.int .i64 (t : Int)) ∧ W = w' := fun W hW => by
          have h0 := cbAt_any (some ⟨gS, 0, none⟩) (some ⟨gP, 0, none⟩) cS Z.length Y (jnL k z9 M G (dgL Z (i : Int))) W hokY.out hftY ⟨by have := hYlh.out; omega, fun v hv => by have := okZ_mem hokY.out hv; unfold IsI64; omega, (Rd.of_own S10.out).below hW⟩ ((Rd.of_own X10.out).below hW)
          rw [hYlh.out, hix, ht, hjl] at h0
          exact h0
        have hclh := Lib.hid hcall
        obtain ⟨uc, huc, c0⟩ := own_cell C10.out (j := t) (by omega)
        obtain rfl : uc = .int .i64 acc := iC_atI hacc huc
        have c2 := C10.out.frozenAt t
        have c4 := (own_lt C10.out).2
        have g0 : w10.cell? ⟨g10, 0, none⟩ = some (.slice (some ⟨gS, 0, none⟩) Z.length cS) := (V10.out.read 0).trans rfl
        have g1 : w10.cell? ⟨g10, 1, none⟩ = some (.slice (some ⟨gC, 0, none⟩) n n) := (V10.out.read 1).trans rfl
        have g4 := V10.out.inside
        have htn' : (t : Int) < (n : Int) := by omega
        have ht0 : (0 : Int) ≤ (t : Int) := by omega
        have hth := Lib.hid ht
        have hw10h := Lib.hid hw10
        have hwsh := Lib.hid hws
        have hgw : w.heap.size + 1 < gC := by have := T10.out.2.inside; have := (own_lt hC.out).1; have := t2.out.2.inside; omega
        clear hjn hftY hix hixb ht hacc hab1 hcall V9 S9 C9 T9 hw10 hws hbd hb3 hcl3 huc
        go_region_law (first
          | (go_simp; go_at_call 74; refine (hclh.out _ (by exact (by repeat (first | exact Below.refl _ _ | assumption | refine Below.drew ?_ | refine below_drewN ?_ _ | refine Below.alloc' ?_ _ | (refine Below.setCell ?_ (by first | omega | (simp; done) | (simp; omega) | exact Below.size (by assumption) | exact Nat.le_trans (Below.size (by assumption)) (by simp)) _) | (refine Below.via' ?_ (by assumption)) | (refine Below.alloc ?_ (by first | omega | (simp; done) | (simp; omega) | exact Below.size (by assumption) | exact Nat.le_trans (Below.size (by assumption)) (by simp)) _) | (refine Below.via ?_ (by assumption) (by first | omega | (simp; done) | (simp; omega) | exact Below.size (by assumption) | exact Nat.le_trans (Below.size (by assumption)) (by simp))))))).mono ?_; rintro e11 w11 ⟨rfl, rfl⟩))
        all_goals
          have hbe : Below (w10.setCell ⟨gC, t, none⟩ (.int .i64 (acc + n0))).heap.size (w10.setCell ⟨gC, t, none⟩ (.int .i64 (acc + n0))) (w10.setCell ⟨gC, t, none⟩ (.int .i64 (acc + n0))).drew := Below.drew (Below.refl _ _)
          have V12 : Hid (Wb (w10.setCell ⟨gC, t, none⟩ (.int .i64 (acc + n0))).drew g10 27 #[.slice (some ⟨gS, 0, none⟩) Z.length cS, .slice (some ⟨gC, 0, none⟩) n n]) := Wb.kept (V10.out.off ⟨gC, t, none⟩ (by show g10 ≠ gC; omega) _) hbe
          have S12 : Hid ((w10.setCell ⟨gC, t, none⟩ (.int .i64 (acc + n0))).drew.ownsRow w2.heap.size 3 1 (.slice (some ⟨gS, 0, none⟩) Z.length cS) Z.length (iC Y)) := own_below (S10.out.kept (grown_setU w10 ⟨gC, t, none⟩ _) (.inr (fun q => by injection q with q; simp at q; omega))) hbe
          have C12 : Hid ((w10.setCell ⟨gC, t, none⟩ (.int .i64 (acc + n0))).drew.ownsRow w2.heap.size 3 1 (.slice (some ⟨gC, 0, none⟩) n n) n (iC (acU Z C k z9 M G n (i + 1)))) := by
            have h9 := (C10.out.stored t (.int .i64 (acc + n0))).1
            rw [← iC_setA, ← hst.out] at h9
            exact own_below h9 hbe
          have T12 : Hid (Fr2 (w10.setCell ⟨gC, t, none⟩ (.int .i64 (acc + n0))).drew w.heap.size (some ⟨bl, off, none⟩) Z.length c (some ⟨bC, oC, none⟩) C.length d) := Fr2.below (T10.out.grown (grown_setU w10 ⟨gC, t, none⟩ _) (fun q hq => by injection hq with hq; simp at hq; omega)) hbe
          have B12 : Below w.heap.size w (w10.setCell ⟨gC, t, none⟩ (.int .i64 (acc + n0))).drew := Below.via' (Below.setCell (p := ⟨gC, t, none⟩) B10 (by show w.heap.size ≤ gC; omega) _) hbe
          have hs12 : gC < (w10.setCell ⟨gC, t, none⟩ (.int .i64 (acc + n0))).drew.heap.size := by have := hbe.size; rw [World.size_setCell] at this; omega
          clear c0 c2 g0 g1 hbe
          go_wp2
          go_roundw
          case rel => exact ⟨i + 1, by omega, by go_num, V12, S12, C12, T12, B12, hs12⟩
          case measure => simp [intOf]; omega
      · have hvb : (v == z9) = false := by rw [beq_eq_false_iff_ne]; exact hvz
        obtain ⟨vn, rfl⟩ : ∃ vn : Nat, v = (vn : Int) := ⟨v.toNat, by omega⟩
        have hvl : vn < G.length := by have := hglh.out; omega
        obtain ⟨bG, oG, gv, rfl, hbG, hGv, hcG⟩ := (hGh.out.below B9).2.2.int hvl
        have hgr := hga.out vn gv hGv
        have hvl' : (vn : Int) < (G.length : Int) := by omega
        have hv0 : (0 : Int) ≤ (vn : Int) := by omega
        have hgzh := Lib.hid (show gzI z9 M G (vn : Int) = gv by unfold gzI; rw [if_neg hvz, Int.toNat_natCast, getD_at hGv])
        replace hGv := Lib.hid hGv
        go_upto_region 10 with fail
        go_region_held3 (fun w' => Below (w9).heap.size (w9) w' ∧ (∀ b o, b < (w9).heap.size → w'.cell? ⟨b, o, none⟩ = (w9).cell? ⟨b, o, none⟩)) (first | exact keep_of (Below.refl _ _) | ((try go_split_ands); exact keep_of (by repeat (first | exact Below.refl _ _ | assumption | refine Below.drew ?_ | refine below_drewN ?_ _ | refine Below.alloc' ?_ _ | (refine Below.setCell ?_ (by first | omega | (simp; done) | (simp; omega) | exact Below.size (by assumption) | exact Nat.le_trans (Below.size (by assumption)) (by simp)) _) | (refine Below.via' ?_ (by assumption)) | (refine Below.alloc ?_ (by first | omega | (simp; done) | (simp; omega) | exact Below.size (by assumption) | exact Nat.le_trans (Below.size (by assumption)) (by simp)) _) | (refine Below.via ?_ (by assumption) (by first | omega | (simp; done) | (simp; omega) | exact Below.size (by assumption) | exact Nat.le_trans (Below.size (by assumption)) (by simp))))))) (fail); rename_i hH; obtain ⟨hb3, hcl3⟩ := hH; have hz3 := hb3.size; (try simp at hz3); (try (have hly3 := Nat.lt_of_succ_le hz3)); (try (have hlx3 := Nat.lt_of_succ_lt hly3)); (try (have hlw3 := Nat.lt_of_succ_lt hlx3)); (try (have hle3 := Nat.le_of_lt hly3)); (try (have hya3 : w.heap.size < w3.heap.size := by omega)); (try (have hyb3 : w.heap.size + 1 < w3.heap.size := by omega)); (try (have hyc3 : w.heap.size + 1 + 1 < w3.heap.size := by omega)); (try (have hyd3 : wa.heap.size < w3.heap.size := by omega))
        go_upto_region 13 with fail
        obtain ⟨ws, hws⟩ : ∃ ws, ws = w9.setCell ⟨gP, k, none⟩ (.int .i64 (gv)) := ⟨_, rfl⟩
        obtain ⟨w10, hw10⟩ : ∃ w10, w10 = ws.drew := ⟨_, rfl⟩
        rw [← hws, ← hw10]
        have hbd : Below ws.heap.size ws w10 := by rw [hw10]; exact Below.drew (Below.refl _ _)
        have hjn : jnL k z9 M G (dgL Z (i : Int)) = (dgL Z (i : Int)).set k (gv) := by
          unfold jnL
          rw [getD_at hveh.out, hgzh.out]
        have hjl : (jnL k z9 M G (dgL Z (i : Int))).length = Z.length := by rw [hjn, List.length_set, dgL_len]
        have hftY : FtC Y (jnL k z9 M G (dgL Z (i : Int))) := by
          rw [hYh.out, hjn]
          exact ft_both (dg_fit (okZ_nn hok.out) _) k (by omega) (by omega)
        have hix : ixC Y (jnL k z9 M G (dgL Z (i : Int))) = jdT Z k z9 M G (i : Int) := by
          unfold jdT
          rw [hYh.out]
        have hixb := ix_in hftY
        rw [hix, hnh.out] at hixb
        obtain ⟨t, ht⟩ : ∃ t : Nat, jdT Z k z9 M G (i : Int) = (t : Int) := ⟨(jdT Z k z9 M G (i : Int)).toNat, by omega⟩
        have htn : t < n := by omega
        have hgPn : g10 < gP ∧ gC < gP ∧ gS < gP := by have := (own_lt hS.out).2; have := hgPh.out; omega
        have X10 : Hid (w10.ownsRow gP 3 1 (.slice (some ⟨gP, 0, none⟩) Z.length Z.length) Z.length (iC (jnL k z9 M G (dgL Z (i : Int))))) := by
          have h9 := (hX9.out.stored k (.int .i64 (gv))).1
          rw [← iC_setA, ← hjn, ← hws] at h9
          exact own_below h9 hbd
        have V10 : Hid (Wb w10 g10 27 #[.slice (some ⟨gS, 0, none⟩) Z.length cS, .slice (some ⟨gC, 0, none⟩) n n]) := Wb.kept (by rw [hws]; exact V9.out.off ⟨gP, k, none⟩ (by show g10 ≠ gP; omega) _) hbd
        have S10 : Hid (w10.ownsRow w2.heap.size 3 1 (.slice (some ⟨gS, 0, none⟩) Z.length cS) Z.length (iC Y)) := own_below (by rw [hws]; exact S9.out.kept (grown_setU w9 ⟨gP, k, none⟩ _) (.inr (fun q => by injection q with q; simp at q; omega))) hbd
        have C10 : Hid (w10.ownsRow w2.heap.size 3 1 (.slice (some ⟨gC, 0, none⟩) n n) n (iC (acU Z C k z9 M G n i))) := own_below (by rw [hws]; exact C9.out.kept (grown_setU w9 ⟨gP, k, none⟩ _) (.inr (fun q => by injection q with q; simp at q; omega))) hbd
        have T10 : Hid (Fr2 w10 w.heap.size (some ⟨bl, off, none⟩) Z.length c (some ⟨bC, oC, none⟩) C.length d) := Fr2.below (by rw [hws]; exact T9.out.grown (grown_setU w9 ⟨gP, k, none⟩ _) (fun q hq => by injection hq with hq; simp at hq; have := hT.out.2.inside; have := hgPh.out; omega)) hbd
        have B10 : Below w.heap.size w w10 := Below.via' (by rw [hws]; exact Below.setCell (p := ⟨gP, k, none⟩) B9 (by show w.heap.size ≤ gP; have := hB.size; have := hgPh.out; omega) _) hbd
        obtain ⟨acc, hacc⟩ : ∃ acc, (acU Z C k z9 M G n i)[t]? = some acc := ⟨_, List.getElem?_eq_getElem (by rw [acU_len]; exact htn)⟩
        have hab1 := acU_bd (Z := Z) (d := k) (z := z9) (m := M) (g := G) (n := n) hin.out t i
        rw [getD_at hacc] at hab1
        have hnb := inR_at hin.out hCi.out
        have hst := Lib.hid (acU_step hCi.out ht hacc)
        have hwr : IntKind.i64.wrap (acc + n0) = acc + n0 := IntWalk.i64_in _ (by omega)
        have hcall : ∀ W, Below w10.heap.size w10 W → Calls Try.prog 74 #[.slice (some ⟨gS, 0, none⟩) Z.length cS, .slice (some ⟨gP, 0, none⟩) Z.length Z.length] W fun e w' => e = .returned (.int .i64 (t : Int)) ∧ W = w' := fun W hW => by
          have h0 := cbAt_any (some ⟨gS, 0, none⟩) (some ⟨gP, 0, none⟩) cS Z.length Y (jnL k z9 M G (dgL Z (i : Int))) W hokY.out hftY ⟨by have := hYlh.out; omega, fun v hv => by have := okZ_mem hokY.out hv; unfold IsI64; omega, (Rd.of_own S10.out).below hW⟩ ((Rd.of_own X10.out).below hW)
          rw [hYlh.out, hix, ht, hjl] at h0
          exact h0
        have hclh := Lib.hid hcall
        obtain ⟨uc, huc, c0⟩ := own_cell C10.out (j := t) (by omega)
        obtain rfl : uc = .int .i64 acc := iC_atI hacc huc
        have c2 := C10.out.frozenAt t
        have c4 := (own_lt C10.out).2
        have g0 : w10.cell? ⟨g10, 0, none⟩ = some (.slice (some ⟨gS, 0, none⟩) Z.length cS) := (V10.out.read 0).trans rfl
        have g1 : w10.cell? ⟨g10, 1, none⟩ = some (.slice (some ⟨gC, 0, none⟩) n n) := (V10.out.read 1).trans rfl
        have g4 := V10.out.inside
        have htn' : (t : Int) < (n : Int) := by omega
        have ht0 : (0 : Int) ≤ (t : Int) := by omega
        have hth := Lib.hid ht
        have hw10h := Lib.hid hw10
        have hwsh := Lib.hid hws
        have hgw : w.heap.size + 1 < gC := by have := T10.out.2.inside; have := (own_lt hC.out).1; have := t2.out.2.inside; omega
        clear hjn hftY hix hixb ht hacc hab1 hcall V9 S9 C9 T9 hw10 hws hbd hb3 hcl3 huc
        go_region_law (first
          | (go_simp; go_at_call 74; refine (hclh.out _ (by exact (by repeat (first | exact Below.refl _ _ | assumption | refine Below.drew ?_ | refine below_drewN ?_ _ | refine Below.alloc' ?_ _ | (refine Below.setCell ?_ (by first | omega | (simp; done) | (simp; omega) | exact Below.size (by assumption) | exact Nat.le_trans (Below.size (by assumption)) (by simp)) _) | (refine Below.via' ?_ (by assumption)) | (refine Below.alloc ?_ (by first | omega | (simp; done) | (simp; omega) | exact Below.size (by assumption) | exact Nat.le_trans (Below.size (by assumption)) (by simp)) _) | (refine Below.via ?_ (by assumption) (by first | omega | (simp; done) | (simp; omega) | exact Below.size (by assumption) | exact Nat.le_trans (Below.size (by assumption)) (by simp))))))).mono ?_; rintro e11 w11 ⟨rfl, rfl⟩))
        all_goals
          have hbe : Below (w10.setCell ⟨gC, t, none⟩ (.int .i64 (acc + n0))).heap.size (w10.setCell ⟨gC, t, none⟩ (.int .i64 (acc + n0))) (w10.setCell ⟨gC, t, none⟩ (.int .i64 (acc + n0))).drew := Below.drew (Below.refl _ _)
          have V12 : Hid (Wb (w10.setCell ⟨gC, t, none⟩ (.int .i64 (acc + n0))).drew g10 27 #[.slice (some ⟨gS, 0, none⟩) Z.length cS, .slice (some ⟨gC, 0, none⟩) n n]) := Wb.kept (V10.out.off ⟨gC, t, none⟩ (by show g10 ≠ gC; omega) _) hbe
          have S12 : Hid ((w10.setCell ⟨gC, t, none⟩ (.int .i64 (acc + n0))).drew.ownsRow w2.heap.size 3 1 (.slice (some ⟨gS, 0, none⟩) Z.length cS) Z.length (iC Y)) := own_below (S10.out.kept (grown_setU w10 ⟨gC, t, none⟩ _) (.inr (fun q => by injection q with q; simp at q; omega))) hbe
          have C12 : Hid ((w10.setCell ⟨gC, t, none⟩ (.int .i64 (acc + n0))).drew.ownsRow w2.heap.size 3 1 (.slice (some ⟨gC, 0, none⟩) n n) n (iC (acU Z C k z9 M G n (i + 1)))) := by
            have h9 := (C10.out.stored t (.int .i64 (acc + n0))).1
            rw [← iC_setA, ← hst.out] at h9
            exact own_below h9 hbe
          have T12 : Hid (Fr2 (w10.setCell ⟨gC, t, none⟩ (.int .i64 (acc + n0))).drew w.heap.size (some ⟨bl, off, none⟩) Z.length c (some ⟨bC, oC, none⟩) C.length d) := Fr2.below (T10.out.grown (grown_setU w10 ⟨gC, t, none⟩ _) (fun q hq => by injection hq with hq; simp at hq; omega)) hbe
          have B12 : Below w.heap.size w (w10.setCell ⟨gC, t, none⟩ (.int .i64 (acc + n0))).drew := Below.via' (Below.setCell (p := ⟨gC, t, none⟩) B10 (by show w.heap.size ≤ gC; omega) _) hbe
          have hs12 : gC < (w10.setCell ⟨gC, t, none⟩ (.int .i64 (acc + n0))).drew.heap.size := by have := hbe.size; rw [World.size_setCell] at this; omega
          clear c0 c2 g0 g1 hbe
          go_wp2
          go_roundw
          case rel => exact ⟨i + 1, by omega, by go_num, V12, S12, C12, T12, B12, hs12⟩
          case measure => simp [intOf]; omega
    · have hij : i = C.length := by omega
      subst hij
      obtain ⟨O, hO⟩ : ∃ O, O = acU Z C k zv M G n C.length := ⟨_, rfl⟩
      have hOl : O.length = n := by rw [hO]; exact acU_len _ _ _ _ _ _ _ _
      have hOg : gcC Z C (k : Int) G = O := by
        unfold gcC
        rw [hMgh.out, Int.toNat_natCast, getD_at hZkh.out, ← hYh.out, hnh.out, Int.toNat_natCast, hO]
      have hOb : ∀ v ∈ O, -2000000000 ≤ v ∧ v ≤ 2000000000 := fun v hv => by
        obtain ⟨q, hq, e9⟩ := List.getElem_of_mem hv
        have h9 := acU_bd (Z := Z) (d := k) (z := zv) (m := M) (g := G) (n := n) hin.out q C.length
        rw [← hO, getD_at (List.getElem?_eq_getElem hq), e9] at h9
        omega
      rw [← hO] at hC
      have hS' : Hid (wr.ownsRow w2.heap.size 3 1 (.slice (some ⟨gS, 0, none⟩) Y.length cS) Y.length (iC Y)) := by unfold Hid; rw [hYlh.out]; exact hS.out
      have hC' : Hid (wr.ownsRow w2.heap.size 3 1 (.slice (some ⟨gC, 0, none⟩) O.length n) O.length (iC O)) := by unfold Hid; rw [hOl]; exact hC.out
      have hci : Hid (CIn wr (some ⟨gS, 0, none⟩) (some ⟨gC, 0, none⟩) Y O) := ⟨⟨by have := hYlh.out; omega, fun v hv => by have := okZ_mem hokY.out hv; unfold IsI64; omega, Rd.of_own hS'.out⟩, ⟨by omega, fun v hv => by have := hOb v hv; unfold IsI64; omega, Rd.of_own hC'.out⟩⟩
      have hcall := cbIf_any (some ⟨gS, 0, none⟩) (some ⟨gC, 0, none⟩) cS n Y O wr hci.out
      have hgood : cgB Y O = inR O (-1000000) 1000000 := by
        have hOc : (O.length : Int) = cnC Y := by rw [hOl, hnh.out]
        cases hio : inR O (-1000000) 1000000
        · exact cg_no1 (cf_no3 hio)
        · refine cg_of (cf_yes hsY.out hOc hio) fun q hq => ?_
          have h9 := jd_good (Z := Z) (C := C) (d := k) (z := zv) (m := M) (n := n) (g := G) hgh.out hZkh.out (fun xx h0 h1 => by
            obtain ⟨xn, rfl⟩ : ∃ xn : Nat, xx = (xn : Int) := ⟨xx.toNat, by omega⟩
            have hxl : xn < G.length := by have := hglh.out; omega
            have h8 := hga.out xn G[xn] (List.getElem?_eq_getElem hxl)
            rw [Int.toNat_natCast, getD_at (List.getElem?_eq_getElem hxl)]
            exact ⟨h8.1, h8.2.1⟩) (by rw [← hYh.out, hnh.out]) (j := q) (by omega)
          rw [← hYh.out, ← hO] at h9
          exact h9
      rw [hgood, hYlh.out, hOl] at hcall
      have hclh := Lib.hid hcall
      have hOgh := Lib.hid hOg
      have hOlh := Lib.hid hOl
      have g0 : wr.cell? ⟨g10, 0, none⟩ = some (.slice (some ⟨gS, 0, none⟩) Z.length cS) := (hV.out.read 0).trans rfl
      have g1 : wr.cell? ⟨g10, 1, none⟩ = some (.slice (some ⟨gC, 0, none⟩) n n) := (hV.out.read 1).trans rfl
      have g4 := hV.out.inside
      have hz3 : w.heap.size ≤ w2.heap.size := B2.size
      have hw3 : w2.heap.size ≤ wr.heap.size := by omega
      clear hO hOl hOg hOb hcall ara arb arc hgood
      go_wp2_with fail
      refine hclh.out.mono ?_
      rintro e1 w10 ⟨h5, hb10⟩
      have B10 : Below w.heap.size w w10 := Below.via' hB hb10
      have T10 := Lib.hid (hT.out.below hb10)
      have S10 := Lib.hid (own_below hS'.out hb10)
      have C10 := Lib.hid (own_below hC'.out hb10)
      have z5a : w10.cell? ⟨w.heap.size + 1, 0, none⟩ = some (.slice none 0 0) := (T10.out.2.read 0).trans rfl
      have z5b : w10.cell? ⟨w.heap.size + 1, 1, none⟩ = some (.slice none 0 0) := (T10.out.2.read 1).trans rfl
      have z5c := T10.out.2.free 0
      have z5d := T10.out.2.free 1
      have z5e := T10.out.2.inside
      have hs10 := hb10.size
      clear hb10 g0 g1 g4
      rcases h5 with ⟨hr, rfl⟩ | ⟨hr, rfl⟩
      · have hv := Lib.hid (gc_yes (d := (k : Int)) hgh.out hrh.out (by rw [hgdh.out]; exact hglh.out) hgbh.out (by rw [hOgh.out]; exact hr))
        clear hr
        go_wp2
        refine bodyPost_ret (v := .tuple #[.agg #[.slice (some ⟨gS, 0, none⟩) Z.length cS, .slice (some ⟨gC, 0, none⟩) n n], .bool true]) (by simp [results, Try.results37, go_sem, *]) rfl ?_
        have e1 : (Value.slice (some ⟨gS, 0, none⟩) Z.length cS) = .slice (some ⟨gS, 0, none⟩) Y.length cS := by rw [hYlh.out]
        have e2 : (Value.slice (some ⟨gC, 0, none⟩) n n) = .slice (some ⟨gC, 0, none⟩) O.length n := by rw [hOlh.out]
        rw [e1, e2]
        refine retCu_yes hv.out.1 (by rw [hv.out.2, hOgh.out, hMgh.out, Int.toNat_natCast, ← hYh.out]) ?_ ?_
        · refine OwU.more (lo := w2.heap.size) (owU_of ?_ ?_ ?_ (fun q hq e => by injection hq with hq; injection e with e; simp at hq e; omega)) hz3 (Nat.le_refl _)
          · simp only [World.size_setCell]
            omega
          · exact ((S10.out.kept (grown_setU _ _ _) (own_ne_lt S10.out (by show w.heap.size + 1 < w2.heap.size; omega))).kept (grown_setU _ _ _) (own_ne_lt S10.out (by show w.heap.size + 1 < w2.heap.size; omega)))
          · exact ((C10.out.kept (grown_setU _ _ _) (own_ne_lt C10.out (by show w.heap.size + 1 < w2.heap.size; omega))).kept (grown_setU _ _ _) (own_ne_lt C10.out (by show w.heap.size + 1 < w2.heap.size; omega)))
        · repeat (refine Below.setCell ?_ (by simp; try omega) _)
          exact B10
      · have hv := Lib.hid (gc_no (gc_no5 (d := (k : Int)) (by rw [hOgh.out]; exact hr)))
        clear hr
        go_wp2
        refine bodyPost_ret (v := .tuple #[.agg #[.slice none 0 0, .slice none 0 0], .bool false]) (by simp [results, Try.results37, go_sem, *]) rfl (retCu_no hv.out.1 hv.out.2 ?_)
        repeat (refine Below.setCell ?_ (by simp; try omega) _)
        exact B10
theorem sGc_x (x y z : Option Addr) (c d e : Nat) (Z C : List Int) (m : Int) (G : List Int) (w : World) (h : CIn w x y Z C) (hG : IIn w z G) (hcZ : Z.length ≤ c) (hnZ : x = none → c = 0) (h1 : C.length ≤ d) (h2 : y = none → d = 0) :
    Calls Try.prog 37 #[.agg #[.slice x Z.length c, .slice y C.length d], .int .i64 m, .slice z G.length e] w (RetCu (gcR Z C m G) (gcB Z C m G) w) := sGc_any x y z c d e Z C G m w h hG hcZ hnZ h1 h2
theorem iGc_x (x y z : Option Addr) (c d e : Nat) (Z C : List Int) (m : Int) (G : List Int) (w : World) (h : CIn w x y Z C) (hG : IIn w z G) (hcZ : Z.length ≤ c) (hnZ : x = none → c = 0) (h1 : C.length ≤ d) (h2 : y = none → d = 0) :
    Calls Try.prog 38 #[.agg #[.slice x Z.length c, .slice y C.length d], .int .i64 m, .slice z G.length e] w (RetCu (gcR Z C m G) (gcB Z C m G) w) := iGc_any x y z c d e Z C G m w h hG hcZ hnZ h1 h2
theorem gcR_l1 {Z C : List Int} {m : Int} {G : List Int} (h : Z.length ≤ 1048576) : (gcR Z C m G).1.length ≤ 1048576 := by
  unfold gcR
  split
  · show (Z.set _ _).length ≤ _
    rw [List.length_set]
    exact h
  · simp
theorem gcR_l2 {Z C : List Int} {m : Int} {G : List Int} : (gcR Z C m G).2.length ≤ 1048576 := by
  cases hb : gcB Z C m G
  · rw [(gc_no hb).2]
    simp
  · unfold gcR
    rw [hb]
    unfold gcB at hb
    rw [Bool.and_eq_true, Bool.and_eq_true, Bool.and_eq_true, Bool.and_eq_true, decide_eq_true_eq] at hb
    obtain ⟨h1, h2, h3, h4, -⟩ := hb
    show (gcC Z C m G).length ≤ _
    unfold gcC
    rw [acU_len]
    obtain ⟨f1, -, -⟩ := cf_get (cg_get h1).1
    obtain ⟨a, b⟩ := (inB_iff _ _ _).1 h2
    have hk : m.toNat < Z.length := by omega
    have hZk : Z[m.toNat]? = some Z[m.toNat] := List.getElem?_eq_getElem hk
    have hzr := okZ_at (cs_get f1).1 hZk
    rw [getD_at hZk] at h3
    have hg0 := cgr_at h4 (j := 0) (v := G[0]'(by omega)) (List.getElem?_eq_getElem _)
    have hs := set_many f1 hZk (m := (gcM G : Int)) (by omega) (by omega)
    have := (cs_get hs.1).2
    omega
end Go.Proofs.Ytnmpigedhpdenaa
