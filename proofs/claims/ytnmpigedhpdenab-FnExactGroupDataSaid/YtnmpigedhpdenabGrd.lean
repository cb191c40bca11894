/-
  The walks of chapter 3: grouped data; the program's and the model's.
-/
import Derived.Test.YtnmpigedhpdenabGrpS
import Derived.Test.YtnmpigedhpdenabRecE
namespace Go.Proofs.Ytnmpigedhpdenab
open Go.RowKit
set_option maxRecDepth 100000

/-- The values of a record, grouped. -/
def gmL (k : Nat) (G V : List Int) : List Int := V.set k (G.getD (V.getD k 0).toNat 0)
theorem gmL_len (k : Nat) (G V : List Int) : (gmL k G V).length = V.length := by unfold gmL; simp
def gmQ (k : Nat) (G : List Int) (q : PR) : PR := ⟨q.a, q.h, q.x, q.c, gmL k G q.L⟩
def gmR (k : Nat) (G : List Int) (q : RV) : RV := (q.1, q.2.1, gmL k G q.2.2)
theorem gm_pM (k : Nat) (G : List Int) (Q : List PR) : pM (Q.map (gmQ k G)) = (pM Q).map (gmR k G) := by unfold pM; rw [List.map_map, List.map_map]; rfl
/-- Does GroupData succeed? What it gives. -/
def gdB (S : List (ByteArray × Int)) (v : Int) (G : List Int) (R : List RV) : Bool := idB S R && gvB S v G
def gdL (S : List (ByteArray × Int)) (v : Int) (G : List Int) (R : List RV) : List RV := rsL (gdB S v G R) (R.map (gmR v.toNat G))
theorem gd_get {S : List (ByteArray × Int)} {v : Int} {G : List Int} {R : List RV} (h : gdB S v G R = true) : idB S R = true ∧ gvB S v G = true := by unfold gdB at h; rwa [Bool.and_eq_true] at h
theorem gd_small (S : List (ByteArray × Int)) (v : Int) (G : List Int) (R : List RV) : (gdL S v G R).length ≤ 40 ∧ totR (gdL S v G R) ≤ 240 :=
  rsL_small fun h => ⟨by rw [List.length_map]; exact (dok_small (gd_get h).1).1, fun q hq => by
    obtain ⟨p, hp, rfl⟩ := List.mem_map.1 hq
    have := (dok_small (gd_get h).1).2 p hp
    unfold gmR
    simp only
    rw [gmL_len]
    exact this⟩
theorem gd_no1 {S : List (ByteArray × Int)} {v : Int} {G : List Int} {R : List RV} (h : idB S R = false) : gdB S v G R = false := by unfold gdB; rw [h]; rfl
theorem gd_no2 {S : List (ByteArray × Int)} {v : Int} {G : List Int} {R : List RV} (h : gvB S v G = false) : gdB S v G R = false := by unfold gdB; rw [h, Bool.and_false]
theorem gd_yes {S : List (ByteArray × Int)} {v : Int} {G : List Int} {R : List RV} (h : idB S R = true) (k : gvB S v G = true) : gdB S v G R = true := by unfold gdB; rw [h, k]; rfl
/-- The first i records are grouped. -/
def gmT (k : Nat) (G : List Int) (T : List PR) (i : Nat) : List PR := (T.take i).map (gmQ k G) ++ T.drop i
theorem gmT_len (k : Nat) (G : List Int) (T : List PR) (i : Nat) : (gmT k G T i).length = T.length := by unfold gmT; simp; omega
theorem gmT_at {k : Nat} {G : List Int} {T : List PR} {i : Nat} (h : i < T.length) : (gmT k G T i)[i]? = T[i]? := by
  unfold gmT
  rw [List.getElem?_append_right (by rw [List.length_map, List.length_take]; omega), List.length_map, List.length_take, Nat.min_eq_left (by omega), Nat.sub_self, List.getElem?_drop, Nat.add_zero]
theorem gmT_step {k : Nat} {G : List Int} {T : List PR} {i : Nat} {q : PR} (h : T[i]? = some q) (hi : i < T.length) : gmT k G T (i + 1) = (gmT k G T i).set i (gmQ k G q) := by
  have hd : T.drop i = q :: T.drop (i + 1) := by
    rw [List.drop_eq_getElem_cons hi]
    rw [List.getElem?_eq_getElem hi] at h
    injection h with h
    rw [h]
  unfold gmT
  rw [take_snoc h, hd, List.set_append_right _ _ (by rw [List.length_map, List.length_take]; omega), List.length_map, List.length_take, Nat.min_eq_left (by omega), Nat.sub_self, List.set_cons_zero, List.map_append, List.append_assoc]
  rfl
theorem gmT_zero (k : Nat) (G : List Int) (T : List PR) : gmT k G T 0 = T := by unfold gmT; simp
theorem gmT_all (k : Nat) (G : List Int) (T : List PR) : gmT k G T T.length = T.map (gmQ k G) := by unfold gmT; simp
theorem gm_set {k a : Nat} {G V : List Int} {b : Int} (ha : V[k]? = some (a : Int)) (hb : G[a]? = some b) : gmL k G V = V.set k b := by
  unfold gmL
  rw [List.getD_eq_getElem?_getD, List.getD_eq_getElem?_getD, ha, Option.getD_some, Int.toNat_natCast, hb]
  rfl
/-- What is known of a record's values where the data are good and the grouping is one. -/
theorem gm_facts {S : List (ByteArray × Int)} {k : Nat} {nm : ByteArray} {lv : Int} {G V : List Int} (hS : S[k]? = some (nm, lv)) (hG : (G.length : Int) = lv) (hf : fitB S V = true) :
    ∃ (a : Nat) (b : Int), V[k]? = some (a : Int) ∧ G[a]? = some b ∧ k < V.length ∧ a < G.length ∧ gmL k G V = V.set k b := by
  have hk : k < S.length := (List.getElem?_eq_some_iff.1 hS).1
  have hl := fit_len hf
  obtain ⟨a', hVk⟩ : ∃ a', V[k]? = some a' := ⟨V[k]'(by omega), List.getElem?_eq_getElem (by omega)⟩
  obtain ⟨hf1, hf2⟩ := fit_get hf hS hVk
  obtain ⟨a, rfl⟩ := Int.eq_ofNat_of_zero_le hf1
  have hal : a < G.length := by omega
  have hb : G[a]? = some G[a] := List.getElem?_eq_getElem hal
  exact ⟨a, G[a], hVk, hb, by omega, hal, gm_set hVk hb⟩

set_option maxHeartbeats 8000000 in
theorem iGD_x (x y z : Option Addr) (c1 c2 c3 : Nat) (S : List (ByteArray × Int)) (v : Int) (G : List Int) (Q : List PR) (w : World) (h : SIn w x c1 S) (hG : IIn w y G) (hQ : DIn w z Q) (_ : ∀ q ∈ Q, RCap q) :
    Calls Try.prog 53 #[.slice x S.length c1, .agg #[.int .i64 v, .slice y G.length c2], .slice z Q.length c3] w (DsI (gdB S v G (pM Q)) (gdL S v G (pM Q)) w) := by
  have hm := h.1
  have hQm := hQ.1
  have hh := Lib.hid h
  have hGh := Lib.hid hG
  have hQh := Lib.hid hQ
  clear h hG hQ
  by_cases hs : schB S = false
  · have hv := Lib.hid (gd_no1 (v := v) (G := G) (idB_no1 (R := pM Q) hs))
    replace hs := Lib.hid hs
    go_enter Try.func53, Try.ntmps53
    go_wp2_with fail
    refine (isSch_x _ _ _ _ (hh.out.below (by exact (by repeat (first | exact Below.refl _ _ | assumption | refine Below.drew ?_ | refine below_drewN ?_ _ | refine Below.alloc' ?_ _ | (refine Below.setCell ?_ (by first | omega | (simp; done) | (simp; omega) | exact Below.size (by assumption) | exact Nat.le_trans (Below.size (by assumption)) (by simp)) _) | (refine Below.via' ?_ (by assumption)) | (refine Below.alloc ?_ (by first | omega | (simp; done) | (simp; omega) | exact Below.size (by assumption) | exact Nat.le_trans (Below.size (by assumption)) (by simp)) _) | (refine Below.via ?_ (by assumption) (by first | omega | (simp; done) | (simp; omega) | exact Below.size (by assumption) | exact Nat.le_trans (Below.size (by assumption)) (by simp)))))))).mono ?_
    rintro e w1 ⟨he, hb1⟩
    rw [hs.out] at he
    subst he
    go_wp2
    go_ret2
    exact DsI.no hv.out (by repeat (first | exact Below.refl _ _ | assumption | refine Below.drew ?_ | refine below_drewN ?_ _ | refine Below.alloc' ?_ _ | (refine Below.setCell ?_ (by first | omega | (simp; done) | (simp; omega) | exact Below.size (by assumption) | exact Nat.le_trans (Below.size (by assumption)) (by simp)) _) | (refine Below.via' ?_ (by assumption)) | (refine Below.alloc ?_ (by first | omega | (simp; done) | (simp; omega) | exact Below.size (by assumption) | exact Nat.le_trans (Below.size (by assumption)) (by simp)) _) | (refine Below.via ?_ (by assumption) (by first | omega | (simp; done) | (simp; omega) | exact Below.size (by assumption) | exact Nat.le_trans (Below.size (by assumption)) (by simp)))))
  have hs : schB S = true := by simpa using hs
  by_cases hg : gvB S v G = false
  · have hv := Lib.hid (gd_no2 (R := pM Q) hg)
    replace hg := Lib.hid hg
    go_enter Try.func53, Try.ntmps53
    go_wp2_with fail
    refine (isSch_x _ _ _ _ (hh.out.below (by exact (by repeat (first | exact Below.refl _ _ | assumption | refine Below.drew ?_ | refine below_drewN ?_ _ | refine Below.alloc' ?_ _ | (refine Below.setCell ?_ (by first | omega | (simp; done) | (simp; omega) | exact Below.size (by assumption) | exact Nat.le_trans (Below.size (by assumption)) (by simp)) _) | (refine Below.via' ?_ (by assumption)) | (refine Below.alloc ?_ (by first | omega | (simp; done) | (simp; omega) | exact Below.size (by assumption) | exact Nat.le_trans (Below.size (by assumption)) (by simp)) _) | (refine Below.via ?_ (by assumption) (by first | omega | (simp; done) | (simp; omega) | exact Below.size (by assumption) | exact Nat.le_trans (Below.size (by assumption)) (by simp)))))))).mono ?_
    rintro e w1 ⟨he, hb1⟩
    rw [hs] at he
    subst he
    have hk1 := Lib.hid ((GB.new w v y G.length c2 58).below hb1)
    obtain ⟨ka1, kb1, kc1⟩ := hk1.out
    go_wp2_with fail
    refine (isGroupingFor_any _ _ _ _ S v G _ hs (hh.out.rd.below (by exact (by repeat (first | exact Below.refl _ _ | assumption | refine Below.drew ?_ | refine below_drewN ?_ _ | refine Below.alloc' ?_ _ | (refine Below.setCell ?_ (by first | omega | (simp; done) | (simp; omega) | exact Below.size (by assumption) | exact Nat.le_trans (Below.size (by assumption)) (by simp)) _) | (refine Below.via' ?_ (by assumption)) | (refine Below.alloc ?_ (by first | omega | (simp; done) | (simp; omega) | exact Below.size (by assumption) | exact Nat.le_trans (Below.size (by assumption)) (by simp)) _) | (refine Below.via ?_ (by assumption) (by first | omega | (simp; done) | (simp; omega) | exact Below.size (by assumption) | exact Nat.le_trans (Below.size (by assumption)) (by simp))))))) (hGh.out.below (by exact (by repeat (first | exact Below.refl _ _ | assumption | refine Below.drew ?_ | refine below_drewN ?_ _ | refine Below.alloc' ?_ _ | (refine Below.setCell ?_ (by first | omega | (simp; done) | (simp; omega) | exact Below.size (by assumption) | exact Nat.le_trans (Below.size (by assumption)) (by simp)) _) | (refine Below.via' ?_ (by assumption)) | (refine Below.alloc ?_ (by first | omega | (simp; done) | (simp; omega) | exact Below.size (by assumption) | exact Nat.le_trans (Below.size (by assumption)) (by simp)) _) | (refine Below.via ?_ (by assumption) (by first | omega | (simp; done) | (simp; omega) | exact Below.size (by assumption) | exact Nat.le_trans (Below.size (by assumption)) (by simp)))))))).mono ?_
    rintro e w2 ⟨he, hb2⟩
    rw [hg.out] at he
    subst he
    go_wp2
    go_ret2
    exact DsI.no hv.out (by repeat (first | exact Below.refl _ _ | assumption | refine Below.drew ?_ | refine below_drewN ?_ _ | refine Below.alloc' ?_ _ | (refine Below.setCell ?_ (by first | omega | (simp; done) | (simp; omega) | exact Below.size (by assumption) | exact Nat.le_trans (Below.size (by assumption)) (by simp)) _) | (refine Below.via' ?_ (by assumption)) | (refine Below.alloc ?_ (by first | omega | (simp; done) | (simp; omega) | exact Below.size (by assumption) | exact Nat.le_trans (Below.size (by assumption)) (by simp)) _) | (refine Below.via ?_ (by assumption) (by first | omega | (simp; done) | (simp; omega) | exact Below.size (by assumption) | exact Nat.le_trans (Below.size (by assumption)) (by simp)))))
  have hg : gvB S v G = true := by simpa using hg
  by_cases hd : dokB S (pM Q) = false
  · have hv := Lib.hid (gd_no1 (v := v) (G := G) (idB_no2 hd))
    replace hd := Lib.hid hd
    replace hg := Lib.hid hg
    go_enter Try.func53, Try.ntmps53
    go_wp2_with fail
    refine (isSch_x _ _ _ _ (hh.out.below (by exact (by repeat (first | exact Below.refl _ _ | assumption | refine Below.drew ?_ | refine below_drewN ?_ _ | refine Below.alloc' ?_ _ | (refine Below.setCell ?_ (by first | omega | (simp; done) | (simp; omega) | exact Below.size (by assumption) | exact Nat.le_trans (Below.size (by assumption)) (by simp)) _) | (refine Below.via' ?_ (by assumption)) | (refine Below.alloc ?_ (by first | omega | (simp; done) | (simp; omega) | exact Below.size (by assumption) | exact Nat.le_trans (Below.size (by assumption)) (by simp)) _) | (refine Below.via ?_ (by assumption) (by first | omega | (simp; done) | (simp; omega) | exact Below.size (by assumption) | exact Nat.le_trans (Below.size (by assumption)) (by simp)))))))).mono ?_
    rintro e w1 ⟨he, hb1⟩
    rw [hs] at he
    subst he
    have hk1 := Lib.hid ((GB.new w v y G.length c2 58).below hb1)
    obtain ⟨ka1, kb1, kc1⟩ := hk1.out
    go_wp2_with fail
    refine (isGroupingFor_any _ _ _ _ S v G _ hs (hh.out.rd.below (by exact (by repeat (first | exact Below.refl _ _ | assumption | refine Below.drew ?_ | refine below_drewN ?_ _ | refine Below.alloc' ?_ _ | (refine Below.setCell ?_ (by first | omega | (simp; done) | (simp; omega) | exact Below.size (by assumption) | exact Nat.le_trans (Below.size (by assumption)) (by simp)) _) | (refine Below.via' ?_ (by assumption)) | (refine Below.alloc ?_ (by first | omega | (simp; done) | (simp; omega) | exact Below.size (by assumption) | exact Nat.le_trans (Below.size (by assumption)) (by simp)) _) | (refine Below.via ?_ (by assumption) (by first | omega | (simp; done) | (simp; omega) | exact Below.size (by assumption) | exact Nat.le_trans (Below.size (by assumption)) (by simp))))))) (hGh.out.below (by exact (by repeat (first | exact Below.refl _ _ | assumption | refine Below.drew ?_ | refine below_drewN ?_ _ | refine Below.alloc' ?_ _ | (refine Below.setCell ?_ (by first | omega | (simp; done) | (simp; omega) | exact Below.size (by assumption) | exact Nat.le_trans (Below.size (by assumption)) (by simp)) _) | (refine Below.via' ?_ (by assumption)) | (refine Below.alloc ?_ (by first | omega | (simp; done) | (simp; omega) | exact Below.size (by assumption) | exact Nat.le_trans (Below.size (by assumption)) (by simp)) _) | (refine Below.via ?_ (by assumption) (by first | omega | (simp; done) | (simp; omega) | exact Below.size (by assumption) | exact Nat.le_trans (Below.size (by assumption)) (by simp)))))))).mono ?_
    rintro e w2 ⟨he, hb2⟩
    rw [hg.out] at he
    subst he
    go_wp2_with fail
    refine (areDataFor_any _ _ _ _ S Q _ hs hm (hh.out.rd.below (by exact (by repeat (first | exact Below.refl _ _ | assumption | refine Below.drew ?_ | refine below_drewN ?_ _ | refine Below.alloc' ?_ _ | (refine Below.setCell ?_ (by first | omega | (simp; done) | (simp; omega) | exact Below.size (by assumption) | exact Nat.le_trans (Below.size (by assumption)) (by simp)) _) | (refine Below.via' ?_ (by assumption)) | (refine Below.alloc ?_ (by first | omega | (simp; done) | (simp; omega) | exact Below.size (by assumption) | exact Nat.le_trans (Below.size (by assumption)) (by simp)) _) | (refine Below.via ?_ (by assumption) (by first | omega | (simp; done) | (simp; omega) | exact Below.size (by assumption) | exact Nat.le_trans (Below.size (by assumption)) (by simp))))))) (hQh.out.below (by exact (by repeat (first | exact Below.refl _ _ | assumption | refine Below.drew ?_ | refine below_drewN ?_ _ | refine Below.alloc' ?_ _ | (refine Below.setCell ?_ (by first | omega | (simp; done) | (simp; omega) | exact Below.size (by assumption) | exact Nat.le_trans (Below.size (by assumption)) (by simp)) _) | (refine Below.via' ?_ (by assumption)) | (refine Below.alloc ?_ (by first | omega | (simp; done) | (simp; omega) | exact Below.size (by assumption) | exact Nat.le_trans (Below.size (by assumption)) (by simp)) _) | (refine Below.via ?_ (by assumption) (by first | omega | (simp; done) | (simp; omega) | exact Below.size (by assumption) | exact Nat.le_trans (Below.size (by assumption)) (by simp)))))))).mono ?_
    rintro e w3 ⟨he, hb3⟩
    rw [hd.out] at he
    subst he
    go_wp2
    go_ret2
    exact DsI.no hv.out (by repeat (first | exact Below.refl _ _ | assumption | refine Below.drew ?_ | refine below_drewN ?_ _ | refine Below.alloc' ?_ _ | (refine Below.setCell ?_ (by first | omega | (simp; done) | (simp; omega) | exact Below.size (by assumption) | exact Nat.le_trans (Below.size (by assumption)) (by simp)) _) | (refine Below.via' ?_ (by assumption)) | (refine Below.alloc ?_ (by first | omega | (simp; done) | (simp; omega) | exact Below.size (by assumption) | exact Nat.le_trans (Below.size (by assumption)) (by simp)) _) | (refine Below.via ?_ (by assumption) (by first | omega | (simp; done) | (simp; omega) | exact Below.size (by assumption) | exact Nat.le_trans (Below.size (by assumption)) (by simp)))))
  have hd : dokB S (pM Q) = true := by simpa using hd
  have hv := Lib.hid (gd_yes (idB_yes hs hd) hg)
  obtain ⟨k, nm, lv, rfl, hSk, hlv, hgb⟩ := gvB_get hg
  have hfit := Lib.hid (fun (q : RV) (hq : q ∈ pM Q) => gm_facts (S := S) (k := k) (nm := nm) (lv := lv) (G := G) (V := q.2.2) hSk hlv (rokB_get (dokB_mem hd hq)).2.2.2.2)
  replace hd := Lib.hid hd
  replace hg := Lib.hid hg
  replace hSk := Lib.hid hSk
  clear hlv hgb
  go_enter Try.func53, Try.ntmps53
  go_wp2_with fail
  refine (isSch_x _ _ _ _ (hh.out.below (by exact (by repeat (first | exact Below.refl _ _ | assumption | refine Below.drew ?_ | refine below_drewN ?_ _ | refine Below.alloc' ?_ _ | (refine Below.setCell ?_ (by first | omega | (simp; done) | (simp; omega) | exact Below.size (by assumption) | exact Nat.le_trans (Below.size (by assumption)) (by simp)) _) | (refine Below.via' ?_ (by assumption)) | (refine Below.alloc ?_ (by first | omega | (simp; done) | (simp; omega) | exact Below.size (by assumption) | exact Nat.le_trans (Below.size (by assumption)) (by simp)) _) | (refine Below.via ?_ (by assumption) (by first | omega | (simp; done) | (simp; omega) | exact Below.size (by assumption) | exact Nat.le_trans (Below.size (by assumption)) (by simp)))))))).mono ?_
  rintro e w1 ⟨he, hb1⟩
  rw [hs] at he
  subst he
  have hk1 := Lib.hid ((GB.new w k y G.length c2 58).below hb1)
  obtain ⟨ka1, kb1, kc1⟩ := hk1.out
  go_wp2_with fail
  refine (isGroupingFor_any _ _ _ _ S k G _ hs (hh.out.rd.below (by exact (by repeat (first | exact Below.refl _ _ | assumption | refine Below.drew ?_ | refine below_drewN ?_ _ | refine Below.alloc' ?_ _ | (refine Below.setCell ?_ (by first | omega | (simp; done) | (simp; omega) | exact Below.size (by assumption) | exact Nat.le_trans (Below.size (by assumption)) (by simp)) _) | (refine Below.via' ?_ (by assumption)) | (refine Below.alloc ?_ (by first | omega | (simp; done) | (simp; omega) | exact Below.size (by assumption) | exact Nat.le_trans (Below.size (by assumption)) (by simp)) _) | (refine Below.via ?_ (by assumption) (by first | omega | (simp; done) | (simp; omega) | exact Below.size (by assumption) | exact Nat.le_trans (Below.size (by assumption)) (by simp))))))) (hGh.out.below (by exact (by repeat (first | exact Below.refl _ _ | assumption | refine Below.drew ?_ | refine below_drewN ?_ _ | refine Below.alloc' ?_ _ | (refine Below.setCell ?_ (by first | omega | (simp; done) | (simp; omega) | exact Below.size (by assumption) | exact Nat.le_trans (Below.size (by assumption)) (by simp)) _) | (refine Below.via' ?_ (by assumption)) | (refine Below.alloc ?_ (by first | omega | (simp; done) | (simp; omega) | exact Below.size (by assumption) | exact Nat.le_trans (Below.size (by assumption)) (by simp)) _) | (refine Below.via ?_ (by assumption) (by first | omega | (simp; done) | (simp; omega) | exact Below.size (by assumption) | exact Nat.le_trans (Below.size (by assumption)) (by simp)))))))).mono ?_
  rintro e w2 ⟨he, hb2⟩
  rw [hg.out] at he
  subst he
  go_wp2_with fail
  refine (areDataFor_any _ _ _ _ S Q _ hs hm (hh.out.rd.below (by exact (by repeat (first | exact Below.refl _ _ | assumption | refine Below.drew ?_ | refine below_drewN ?_ _ | refine Below.alloc' ?_ _ | (refine Below.setCell ?_ (by first | omega | (simp; done) | (simp; omega) | exact Below.size (by assumption) | exact Nat.le_trans (Below.size (by assumption)) (by simp)) _) | (refine Below.via' ?_ (by assumption)) | (refine Below.alloc ?_ (by first | omega | (simp; done) | (simp; omega) | exact Below.size (by assumption) | exact Nat.le_trans (Below.size (by assumption)) (by simp)) _) | (refine Below.via ?_ (by assumption) (by first | omega | (simp; done) | (simp; omega) | exact Below.size (by assumption) | exact Nat.le_trans (Below.size (by assumption)) (by simp))))))) (hQh.out.below (by exact (by repeat (first | exact Below.refl _ _ | assumption | refine Below.drew ?_ | refine below_drewN ?_ _ | refine Below.alloc' ?_ _ | (refine Below.setCell ?_ (by first | omega | (simp; done) | (simp; omega) | exact Below.size (by assumption) | exact Nat.le_trans (Below.size (by assumption)) (by simp)) _) | (refine Below.via' ?_ (by assumption)) | (refine Below.alloc ?_ (by first | omega | (simp; done) | (simp; omega) | exact Below.size (by assumption) | exact Nat.le_trans (Below.size (by assumption)) (by simp)) _) | (refine Below.via ?_ (by assumption) (by first | omega | (simp; done) | (simp; omega) | exact Below.size (by assumption) | exact Nat.le_trans (Below.size (by assumption)) (by simp)))))))).mono ?_
  rintro e w3 ⟨he, hb3⟩
  rw [hd.out] at he
  subst he
  have hk3 := Lib.hid (hk1.out.below (show Below w1.heap.size w1 w3 from (by repeat (first | exact Below.refl _ _ | assumption | refine Below.drew ?_ | refine below_drewN ?_ _ | refine Below.alloc' ?_ _ | (refine Below.setCell ?_ (by first | omega | (simp; done) | (simp; omega) | exact Below.size (by assumption) | exact Nat.le_trans (Below.size (by assumption)) (by simp)) _) | (refine Below.via' ?_ (by assumption)) | (refine Below.alloc ?_ (by first | omega | (simp; done) | (simp; omega) | exact Below.size (by assumption) | exact Nat.le_trans (Below.size (by assumption)) (by simp)) _) | (refine Below.via ?_ (by assumption) (by first | omega | (simp; done) | (simp; omega) | exact Below.size (by assumption) | exact Nat.le_trans (Below.size (by assumption)) (by simp)))))))
  have hQ3 := Lib.hid (hQh.out.below (show Below w.heap.size w w3 from (by repeat (first | exact Below.refl _ _ | assumption | refine Below.drew ?_ | refine below_drewN ?_ _ | refine Below.alloc' ?_ _ | (refine Below.setCell ?_ (by first | omega | (simp; done) | (simp; omega) | exact Below.size (by assumption) | exact Nat.le_trans (Below.size (by assumption)) (by simp)) _) | (refine Below.via' ?_ (by assumption)) | (refine Below.alloc ?_ (by first | omega | (simp; done) | (simp; omega) | exact Below.size (by assumption) | exact Nat.le_trans (Below.size (by assumption)) (by simp)) _) | (refine Below.via ?_ (by assumption) (by first | omega | (simp; done) | (simp; omega) | exact Below.size (by assumption) | exact Nat.le_trans (Below.size (by assumption)) (by simp)))))))
  have hB3 : Below w.heap.size w w3 := (by repeat (first | exact Below.refl _ _ | assumption | refine Below.drew ?_ | refine below_drewN ?_ _ | refine Below.alloc' ?_ _ | (refine Below.setCell ?_ (by first | omega | (simp; done) | (simp; omega) | exact Below.size (by assumption) | exact Nat.le_trans (Below.size (by assumption)) (by simp)) _) | (refine Below.via' ?_ (by assumption)) | (refine Below.alloc ?_ (by first | omega | (simp; done) | (simp; omega) | exact Below.size (by assumption) | exact Nat.le_trans (Below.size (by assumption)) (by simp)) _) | (refine Below.via ?_ (by assumption) (by first | omega | (simp; done) | (simp; omega) | exact Below.size (by assumption) | exact Nat.le_trans (Below.size (by assumption)) (by simp)))))
  have hk3l := hk3.out.2.2
  clear ka1 kb1 kc1 hb1 hb2 hb3 hk1
  go_wp2_with fail
  refine (copyRecords_any _ _ Q _ hQm (fun q hq => ⟨(hQ3.out.2.1 q hq).2.2.1, (hQ3.out.2.1 q hq).2.2.2.2⟩) hQ3.out.2.2).mono ?_
  rintro e w4 ⟨T, rfl, hpm, ho, hb4⟩
  have hTm : T.length ≤ 1048576 := by rw [pM_length hpm]; exact hQm
  have hoh := Lib.hid ho
  have hpmh := Lib.hid hpm
  have hk4 := Lib.hid (hk3.out.below hb4)
  have hB4 := Below.via' hB3 hb4
  have hz3 := hB3.size
  have hz4 := hb4.size
  clear ho hpm hb4 hB3
  go_wp2
  go_loopw [30] (fun c wr => ∃ i : Nat, i ≤ T.length ∧ c = .int .i64 i ∧ Hid (OwD wr w3.heap.size w4.heap.size 140 3 (.slice (some ⟨w3.heap.size, 0, none⟩) (gmT k G T i).length T.length) (gmT k G T i)) ∧ Hid (GB wr w.heap.size k y G.length c2) ∧ Below w.heap.size w wr ∧ w4.heap.size ≤ wr.heap.size) (fun c _ => T.length - (intOf c).toNat)
  case atStart => exact ⟨0, by omega, rfl, (by unfold Hid; rw [gmT_zero]; exact hoh.out), hk4, hB4, Nat.le_refl _⟩
  case round =>
    clear hoh hk4 hB4
    obtain ⟨i, hi, rfl, ho, hk, hb, hz⟩ := hrel
    by_cases hlt : i < T.length
    · obtain ⟨q, hq⟩ : ∃ q, T[i]? = some q := ⟨T[i], List.getElem?_eq_getElem hlt⟩
      have hZ := (gmT_at (k := k) (G := G) hlt).trans hq
      have hstep := Lib.hid (gmT_step (k := k) (G := G) hq hlt)
      have hqm : q.m ∈ pM Q := by rw [← hpmh.out]; exact List.mem_of_getElem? (pM_at hq)
      obtain ⟨a, b, hVk, hGa, hkV, haG, hgm⟩ := hfit.out q.m hqm
      simp only [PR.m] at hVk hkV hgm
      have hin := ho.out.2.1.1 q (List.mem_of_getElem? hZ)
      obtain ⟨gq, cq, he⟩ := own_some hin.1 (by omega)
      unfold PR.v at he
      injection he with hx _ hcq
      have hrow := ho.out.drd.1.rec (i := i) (by rw [gmT_len]; exact hlt)
      obtain ⟨bl, off, q', hbx, hbl, hQi, hc0, hc1, hc2⟩ := hrow
      obtain rfl : q = q' := Option.some.inj (hZ.symm.trans hQi)
      injection hbx with hbx
      injection hbx with hbx hbo
      subst hbx hbo
      rw [Nat.zero_add] at hc0 hc1 hc2
      rw [hx] at hc2
      have hinq : wr.ownsRow w3.heap.size 3 1 (.slice (some ⟨gq, 0, none⟩) q.L.length q.c) q.L.length (iC q.L) := by have := hin.1; unfold PR.v at this; rwa [hx] at this
      obtain ⟨u0, hu0, k0⟩ := own_cell hinq (j := k) (by omega)
      obtain rfl : u0 = .int .i64 (a : Int) := Option.some.inj (hu0.symm.trans (iC_at hVk))
      have f0 := hinq.frozenAt k
      have hgq := (own_lt hinq).2
      obtain ⟨bl2, off2, b2, hy, hbl2, hGa2, hcG⟩ := (hGh.out.2.2.below hb).int (i := a) haG
      obtain rfl : b = b2 := Option.some.inj (hGa.symm.trans hGa2)
      subst hy
      obtain ⟨ga, gb, gc⟩ := hk.out
      have st := hinq.stored k (.int .i64 b)
      rw [iC_set, ← hgm] at st
      have hT1 := Lib.hid (show ∀ w1, w1 = wr.setCell ⟨gq, k, none⟩ (.int .i64 b) → OwD w1 w3.heap.size w4.heap.size 140 3 (.slice (some ⟨w3.heap.size, 0, none⟩) (gmT k G T (i + 1)).length T.length) (gmT k G T (i + 1)) from by
        intro w1 hw1
        subst hw1
        have hqv : q.v = .slice (some ⟨gq, 0, none⟩) q.L.length q.c := by unfold PR.v; rw [hx]
        have h1 := ho.out.turn hZ (M := gmL k G q.L) (gmL_len _ _ _) (by rw [hqv]; exact st.1) (by rw [hqv]; exact st.2)
        rw [hstep.out]
        exact h1)
      have hkn : (k : Int) < (q.L.length : Int) := by omega
      have hk0 : (0 : Int) ≤ (k : Int) := by omega
      have hal : (a : Int) < (G.length : Int) := by omega
      have ha0 : (0 : Int) ≤ (a : Int) := by omega
      have hlt' : (i : Int) < (T.length : Int) := by omega
      have hi0 : (0 : Int) ≤ (i : Int) := by omega
      have hwg : w.heap.size ≤ gq := by have := hinq.lt gq rfl; omega
      have hbg : w.heap.size ≠ gq := by have := hinq.lt gq rfl; omega
      have hgk := Lib.hid (hk.out.grown st.2 (by intro e; injection e with e; exact hbg e))
      clear hZ hqm hVk hGa hGa2 hgm hin hQi hinq hu0 st hq ho hk
      replace hx := Lib.hid hx
      go_wp2
      go_region
      all_goals
        go_wp2
        refine ⟨⟨i + 1, by omega, by go_num, ?_, ?_, (by repeat (first | exact Below.refl _ _ | assumption | refine Below.drew ?_ | refine below_drewN ?_ _ | refine Below.alloc' ?_ _ | (refine Below.setCell ?_ (by first | omega | (simp; done) | (simp; omega) | exact Below.size (by assumption) | exact Nat.le_trans (Below.size (by assumption)) (by simp)) _) | (refine Below.via' ?_ (by assumption)) | (refine Below.alloc ?_ (by first | omega | (simp; done) | (simp; omega) | exact Below.size (by assumption) | exact Nat.le_trans (Below.size (by assumption)) (by simp)) _) | (refine Below.via ?_ (by assumption) (by first | omega | (simp; done) | (simp; omega) | exact Below.size (by assumption) | exact Nat.le_trans (Below.size (by assumption)) (by simp))))), by simp; omega⟩, by simp [intOf]; omega⟩
        · exact Lib.hid ((hT1.out _ rfl).below (((Below.refl _ _).alloc (Nat.le_refl _) _).drew))
        · exact Lib.hid (hgk.out.below (((Below.refl _ _).alloc (Nat.le_refl _) _).drew))
    · have hij : i = T.length := by omega
      have hfin := Lib.hid (show DsI (gdB S k G (pM Q)) (gdL S k G (pM Q)) w (.returned (.tuple #[.slice (some ⟨w3.heap.size, 0, none⟩) T.length T.length, .bool true])) wr from by
        refine DsI.yes (T := T.map (gmQ k G)) hv.out (by rw [gm_pM, hpmh.out, Int.toNat_natCast]) ?_ hb
        have h1 := ho.out
        rw [hij, gmT_all, List.length_map] at h1
        have h2 : (T.map (gmQ k G)).length = T.length := List.length_map _
        have h3 := h1.more hz3 hz
        exact h3)
      have hn' : ¬ (i : Int) < (T.length : Int) := by omega
      clear ho hij hlt
      go_wp2
      go_ret2
      exact hfin.out
end Go.Proofs.Ytnmpigedhpdenab
