import Derived.Test.YtmcibcechffppaaGreatPkE
namespace Go.Proofs.YtmcibcechffppaaGreat
open Go.RowKit
set_option maxRecDepth 100000

/-- Values with a donor's values at some variables. -/
def rpL (I V D : List Int) : List Int := I.foldl (fun X v => X.set v.toNat (D[v.toNat]?.getD 0)) V
theorem rp_snoc (I V D : List Int) (v : Int) : rpL (I ++ [v]) V D = (rpL I V D).set v.toNat (D[v.toNat]?.getD 0) := by unfold rpL; rw [List.foldl_append]; rfl
theorem rp_len : ∀ (I V D : List Int), (rpL I V D).length = V.length
  | [], _, _ => rfl
  | v :: I, V, D => by
    unfold rpL
    rw [List.foldl_cons]
    exact (rp_len I _ D).trans (List.length_set ..)
theorem rp_step {I V D : List Int} {i n : Nat} {d : Int} (hi : I[i]? = some (n : Int)) (hd : D[n]? = some d) : (rpL (I.take i) V D).set n d = rpL (I.take (i + 1)) V D := by
  rw [take_snoc hi, rp_snoc, Int.toNat_natCast, hd]; rfl
theorem rp_get : ∀ (I V D : List Int) (j : Nat) (a d : Int), V[j]? = some a → D[j]? = some d → (rpL I V D)[j]? = some a ∨ (rpL I V D)[j]? = some d
  | [], _, _, _, _, _, h1, _ => .inl h1
  | v :: I, V, D, j, a, d, h1, h2 => by
    unfold rpL
    rw [List.foldl_cons]
    by_cases e : v.toNat = j
    · have h3 : (V.set v.toNat (D[v.toNat]?.getD 0))[j]? = some d := by
        have hj := (List.getElem?_eq_some_iff.1 h1).1
        rw [e, h2, List.getElem?_set_self hj]
        rfl
      rcases rp_get I _ D j d d h3 h2 with h | h
      · exact .inr h
      · exact .inr h
    · exact rp_get I _ D j a d (by rw [List.getElem?_set_ne e]; exact h1) h2
theorem rp_fit {S : List (ByteArray × Int)} {I V D : List Int} (hV : fitB S V = true) (hD : fitB S D = true) : fitB S (rpL I V D) = true := by
  have l1 := fit_len hV
  have l2 := fit_len hD
  refine fit_all (by rw [rp_len, l1]) fun j hj => ?_
  have e1 : V[j]? = some V[j] := List.getElem?_eq_getElem (by omega)
  have e2 : D[j]? = some D[j] := List.getElem?_eq_getElem (by omega)
  have e3 : S[j]? = some (S[j].1, S[j].2) := List.getElem?_eq_getElem hj
  rcases rp_get I V D j _ _ e1 e2 with h | h
  · exact ⟨_, _, _, e3, h, fit_get hV e3 e1⟩
  · exact ⟨_, _, _, e3, h, fit_get hD e3 e2⟩
theorem fit_iinD {w : World} {u : Option Addr} {S : List (ByteArray × Int)} {V : List Int} (hs : schB S = true) (hf : fitB S V = true) (hr : Rd w u (iC V)) : IIn w u V := by
  have hl := fit_len hf
  have h6 := (schB_len hs).2
  refine ⟨by omega, fun n hn => ?_, hr⟩
  obtain ⟨j, hj, rfl⟩ := List.getElem_of_mem hn
  have e1 : V[j]? = some V[j] := List.getElem?_eq_getElem hj
  have e3 : S[j]? = some (S[j].1, S[j].2) := List.getElem?_eq_getElem (by omega)
  have h3 := fit_get hf e3 e1
  have h4 := schB_lv hs e3
  unfold IsI64
  omega
theorem ck_at {S : List (ByteArray × Int)} {M : List (List Int)} {W V b : List Int} (hs : schB S = true) (h : ckO S M W V = some b) {i : Nat} {v : Int} (hv : b[i]? = some v) : ∃ n : Nat, v = (n : Int) ∧ n < S.length := by
  obtain ⟨_, st, rfl, hst⟩ := ck_ok h
  have h6 := (schB_len hs).2
  obtain ⟨p, e⟩ := (stA_mem S.length _).1 (lvs_stA (n := S.length) (by omega) hst)
  rw [e] at hv
  obtain ⟨k, e2, hk, _⟩ := pkUp_mem (List.mem_of_getElem? hv)
  exact ⟨k, e2, hk⟩
/-- Can a donor mend at all? The values with the donor's; the answers. -/
def dmG (S : List (ByteArray × Int)) (M : List (List Int)) (W V D : List Int) : Bool := cmB S M W V && fitB S D && (ckO S M W V).isSome
def dmR (S : List (ByteArray × Int)) (M : List (List Int)) (W V D : List Int) : List Int := rpL ((ckO S M W V).getD []) V D
def dmB (S : List (ByteArray × Int)) (M : List (List Int)) (W V D : List Int) : Bool := dmG S M W V D && !faB M (dmR S M W V D)
def dmL (S : List (ByteArray × Int)) (M : List (List Int)) (W V D : List Int) : List Int := if dmG S M W V D = true then (if faB M (dmR S M W V D) = true then mvL S M W V else dmR S M W V D) else []
theorem dm_no {S : List (ByteArray × Int)} {M : List (List Int)} {W V D : List Int} (h : dmG S M W V D = false) : dmL S M W V D = [] ∧ dmB S M W V D = false := by
  unfold dmL dmB
  rw [h]
  exact ⟨rfl, rfl⟩
theorem dm_no1 {S : List (ByteArray × Int)} {M : List (List Int)} {W V D : List Int} (h : cmB S M W V = false) : dmG S M W V D = false := by unfold dmG; rw [h]; rfl
theorem dm_no2 {S : List (ByteArray × Int)} {M : List (List Int)} {W V D : List Int} (h : fitB S D = false) : dmG S M W V D = false := by unfold dmG; rw [h, Bool.and_false]; rfl
theorem dm_no3 {S : List (ByteArray × Int)} {M : List (List Int)} {W V D : List Int} (h : ckO S M W V = none) : dmG S M W V D = false := by unfold dmG; rw [h, Bool.and_comm]; rfl
theorem dm_go {S : List (ByteArray × Int)} {M : List (List Int)} {W V D b : List Int} (h1 : cmB S M W V = true) (h2 : fitB S D = true) (h3 : ckO S M W V = some b) : dmG S M W V D = true ∧ dmR S M W V D = rpL b V D := by
  unfold dmG dmR
  rw [h1, h2, h3]
  exact ⟨rfl, rfl⟩
theorem dm_put {S : List (ByteArray × Int)} {M : List (List Int)} {W V D : List Int} (h : dmG S M W V D = true) (k : faB M (dmR S M W V D) = false) : dmL S M W V D = dmR S M W V D ∧ dmB S M W V D = true := by
  unfold dmL dmB
  rw [h, k]
  exact ⟨rfl, rfl⟩
theorem dm_mend {S : List (ByteArray × Int)} {M : List (List Int)} {W V D : List Int} (h : dmG S M W V D = true) (k : faB M (dmR S M W V D) = true) : dmL S M W V D = mvL S M W V ∧ dmB S M W V D = false := by
  unfold dmL dmB
  rw [h, k]
  exact ⟨rfl, rfl⟩
theorem dmL_len {S : List (ByteArray × Int)} {M : List (List Int)} {W V D : List Int} : (dmL S M W V D).length ≤ S.length := by
  cases h : dmG S M W V D
  · rw [(dm_no h).1]; exact Nat.zero_le _
  · cases k : faB M (dmR S M W V D)
    · rw [(dm_put h k).1]
      unfold dmR
      rw [rp_len]
      unfold dmG at h
      rw [Bool.and_eq_true, Bool.and_eq_true] at h
      rw [fit_len (cm_get h.1.1).2.2]
      exact Nat.le_refl _
    · rw [(dm_mend h k).1]
      exact mv_len _ _ _ _
/-- A list and two Bools, handed back. -/
def RetLBB (L : List Int) (b c : Bool) (w : World) (e : Ending) (w' : World) : Prop := ∃ v, e = .returned (.tuple #[v, .bool b, .bool c]) ∧ w'.ownsRow w.heap.size 3 1 v L.length (iC L) ∧ Below w.heap.size w w'
theorem retLBB_of {L : List Int} {b c b' c' : Bool} {w : World} {v : Value} {w' : World} (hb : b' = b) (hc : c' = c) (ho : w'.ownsRow w.heap.size 3 1 v L.length (iC L)) (hB : Below w.heap.size w w') : RetLBB L b c w (.returned (.tuple #[v, .bool b', .bool c'])) w' := by
  subst hb hc
  exact ⟨v, rfl, ho, hB⟩
theorem retLBB_no {S : List (ByteArray × Int)} {M : List (List Int)} {W V D : List Int} {w w' : World} (h : dmG S M W V D = false) (hB : Below w.heap.size w w') : RetLBB (dmL S M W V D) (dmB S M W V D) (dmG S M W V D) w (.returned (.tuple #[.slice none 0 0, .bool false, .bool false])) w' := by
  obtain ⟨h1, h2⟩ := dm_no h
  rw [h1, h2, h]
  exact ⟨_, rfl, World.ownsRow_nil _ _ _ _, hB⟩
set_option maxHeartbeats 8000000 in
theorem iDM_x (x y z u p : Option Addr) (c1 c2 c3 c4 c5 : Nat) (S : List (ByteArray × Int)) (Q : List PR) (W V D : List Int) (w : World) (hS : SIn w x c1 S) (hQ : EIn w y Q) (hW : IIn w z W) (hV : IIn w u V) (hD : IIn w p D) (hc : V.length ≤ c4) (hnil : u = none → c4 = 0) :
    Calls Tryz.prog 25 #[.slice x S.length c1, .slice y Q.length c2, .slice z W.length c3, .slice u V.length c4, .slice p D.length c5] w (RetLBB (dmL S (eM Q) W V D) (dmB S (eM Q) W V D) (dmG S (eM Q) W V D) w) := by
  have hSh := Lib.hid hS
  have hQh := Lib.hid hQ
  have hWh := Lib.hid hW
  have hVh := Lib.hid hV
  have hDh := Lib.hid hD
  have hm := hS.1
  have hmV := hV.1
  clear hS hQ hW hV hD
  go_enter Tryz.func25, Tryz.ntmps25
  go_wp2_with fail
  refine (canBeMended_any _ _ _ _ _ _ _ _ S Q W V _ (hSh.out.below (by exact (by repeat (first | exact Below.refl _ _ | assumption | refine Below.drew ?_ | refine below_drewN ?_ _ | refine Below.alloc' ?_ _ | (refine Below.setCell ?_ (by first | omega | (simp; done) | (simp; omega) | exact Below.size (by assumption) | exact Nat.le_trans (Below.size (by assumption)) (by simp)) _) | (refine Below.via' ?_ (by assumption)) | (refine Below.alloc ?_ (by first | omega | (simp; done) | (simp; omega) | exact Below.size (by assumption) | exact Nat.le_trans (Below.size (by assumption)) (by simp)) _) | (refine Below.via ?_ (by assumption) (by first | omega | (simp; done) | (simp; omega) | exact Below.size (by assumption) | exact Nat.le_trans (Below.size (by assumption)) (by simp))))))) (hQh.out.below (by exact (by repeat (first | exact Below.refl _ _ | assumption | refine Below.drew ?_ | refine below_drewN ?_ _ | refine Below.alloc' ?_ _ | (refine Below.setCell ?_ (by first | omega | (simp; done) | (simp; omega) | exact Below.size (by assumption) | exact Nat.le_trans (Below.size (by assumption)) (by simp)) _) | (refine Below.via' ?_ (by assumption)) | (refine Below.alloc ?_ (by first | omega | (simp; done) | (simp; omega) | exact Below.size (by assumption) | exact Nat.le_trans (Below.size (by assumption)) (by simp)) _) | (refine Below.via ?_ (by assumption) (by first | omega | (simp; done) | (simp; omega) | exact Below.size (by assumption) | exact Nat.le_trans (Below.size (by assumption)) (by simp))))))) (hWh.out.below (by exact (by repeat (first | exact Below.refl _ _ | assumption | refine Below.drew ?_ | refine below_drewN ?_ _ | refine Below.alloc' ?_ _ | (refine Below.setCell ?_ (by first | omega | (simp; done) | (simp; omega) | exact Below.size (by assumption) | exact Nat.le_trans (Below.size (by assumption)) (by simp)) _) | (refine Below.via' ?_ (by assumption)) | (refine Below.alloc ?_ (by first | omega | (simp; done) | (simp; omega) | exact Below.size (by assumption) | exact Nat.le_trans (Below.size (by assumption)) (by simp)) _) | (refine Below.via ?_ (by assumption) (by first | omega | (simp; done) | (simp; omega) | exact Below.size (by assumption) | exact Nat.le_trans (Below.size (by assumption)) (by simp))))))) (hVh.out.below (by exact (by repeat (first | exact Below.refl _ _ | assumption | refine Below.drew ?_ | refine below_drewN ?_ _ | refine Below.alloc' ?_ _ | (refine Below.setCell ?_ (by first | omega | (simp; done) | (simp; omega) | exact Below.size (by assumption) | exact Nat.le_trans (Below.size (by assumption)) (by simp)) _) | (refine Below.via' ?_ (by assumption)) | (refine Below.alloc ?_ (by first | omega | (simp; done) | (simp; omega) | exact Below.size (by assumption) | exact Nat.le_trans (Below.size (by assumption)) (by simp)) _) | (refine Below.via ?_ (by assumption) (by first | omega | (simp; done) | (simp; omega) | exact Below.size (by assumption) | exact Nat.le_trans (Below.size (by assumption)) (by simp)))))))).mono ?_
  rintro e w1 ⟨rfl, hb1⟩
  cases hcm : cmB S (eM Q) W V
  · have hno := Lib.hid (dm_no1 (D := D) hcm)
    clear hcm
    go_wp2
    go_ret3
    exact retLBB_no hno.out (by repeat (first | exact Below.refl _ _ | assumption | refine Below.drew ?_ | refine below_drewN ?_ _ | refine Below.alloc' ?_ _ | (refine Below.setCell ?_ (by first | omega | (simp; done) | (simp; omega) | exact Below.size (by assumption) | exact Nat.le_trans (Below.size (by assumption)) (by simp)) _) | (refine Below.via' ?_ (by assumption)) | (refine Below.alloc ?_ (by first | omega | (simp; done) | (simp; omega) | exact Below.size (by assumption) | exact Nat.le_trans (Below.size (by assumption)) (by simp)) _) | (refine Below.via ?_ (by assumption) (by first | omega | (simp; done) | (simp; omega) | exact Below.size (by assumption) | exact Nat.le_trans (Below.size (by assumption)) (by simp)))))
  have hch := Lib.hid hcm
  obtain ⟨k1, -, k3⟩ := cm_get hcm
  have hs := (el_get (sm_get k1).1).1
  have hl40 := (el_get (sm_get k1).1).2.1
  have hedh := Lib.hid (el_get (sm_get k1).1).2.2
  rw [eM_len] at hl40
  have hsh := Lib.hid hs
  have hfV := Lib.hid k3
  have hl6 := schB_len hs
  have hlV := Lib.hid (fit_len k3)
  clear hcm k1 k3 hs
  go_wp2_with fail
  refine (areValues_any _ _ _ _ S D _ hsh.out hm (hSh.out.rd.below (by exact (by repeat (first | exact Below.refl _ _ | assumption | refine Below.drew ?_ | refine below_drewN ?_ _ | refine Below.alloc' ?_ _ | (refine Below.setCell ?_ (by first | omega | (simp; done) | (simp; omega) | exact Below.size (by assumption) | exact Nat.le_trans (Below.size (by assumption)) (by simp)) _) | (refine Below.via' ?_ (by assumption)) | (refine Below.alloc ?_ (by first | omega | (simp; done) | (simp; omega) | exact Below.size (by assumption) | exact Nat.le_trans (Below.size (by assumption)) (by simp)) _) | (refine Below.via ?_ (by assumption) (by first | omega | (simp; done) | (simp; omega) | exact Below.size (by assumption) | exact Nat.le_trans (Below.size (by assumption)) (by simp))))))) (hDh.out.below (by exact (by repeat (first | exact Below.refl _ _ | assumption | refine Below.drew ?_ | refine below_drewN ?_ _ | refine Below.alloc' ?_ _ | (refine Below.setCell ?_ (by first | omega | (simp; done) | (simp; omega) | exact Below.size (by assumption) | exact Nat.le_trans (Below.size (by assumption)) (by simp)) _) | (refine Below.via' ?_ (by assumption)) | (refine Below.alloc ?_ (by first | omega | (simp; done) | (simp; omega) | exact Below.size (by assumption) | exact Nat.le_trans (Below.size (by assumption)) (by simp)) _) | (refine Below.via ?_ (by assumption) (by first | omega | (simp; done) | (simp; omega) | exact Below.size (by assumption) | exact Nat.le_trans (Below.size (by assumption)) (by simp)))))))).mono ?_
  rintro e w2 ⟨rfl, hb2⟩
  have hB2 : Below w.heap.size w w2 := (by repeat (first | exact Below.refl _ _ | assumption | refine Below.drew ?_ | refine below_drewN ?_ _ | refine Below.alloc' ?_ _ | (refine Below.setCell ?_ (by first | omega | (simp; done) | (simp; omega) | exact Below.size (by assumption) | exact Nat.le_trans (Below.size (by assumption)) (by simp)) _) | (refine Below.via' ?_ (by assumption)) | (refine Below.alloc ?_ (by first | omega | (simp; done) | (simp; omega) | exact Below.size (by assumption) | exact Nat.le_trans (Below.size (by assumption)) (by simp)) _) | (refine Below.via ?_ (by assumption) (by first | omega | (simp; done) | (simp; omega) | exact Below.size (by assumption) | exact Nat.le_trans (Below.size (by assumption)) (by simp)))))
  cases hfd : fitB S D
  · have hno := Lib.hid (dm_no2 (M := eM Q) (W := W) (V := V) hfd)
    clear hfd
    go_wp2
    go_ret3
    exact retLBB_no hno.out (by repeat (first | exact Below.refl _ _ | assumption | refine Below.drew ?_ | refine below_drewN ?_ _ | refine Below.alloc' ?_ _ | (refine Below.setCell ?_ (by first | omega | (simp; done) | (simp; omega) | exact Below.size (by assumption) | exact Nat.le_trans (Below.size (by assumption)) (by simp)) _) | (refine Below.via' ?_ (by assumption)) | (refine Below.alloc ?_ (by first | omega | (simp; done) | (simp; omega) | exact Below.size (by assumption) | exact Nat.le_trans (Below.size (by assumption)) (by simp)) _) | (refine Below.via ?_ (by assumption) (by first | omega | (simp; done) | (simp; omega) | exact Below.size (by assumption) | exact Nat.le_trans (Below.size (by assumption)) (by simp)))))
  have hfD := Lib.hid hfd
  have hlD := Lib.hid (fit_len hfd)
  have hs2 := hB2.size
  clear hfd hb1 hb2
  go_wp2_with fail
  refine (cheapest_any _ _ _ _ _ _ _ _ S Q W V _ hch.out (hSh.out.below (by exact (by repeat (first | exact Below.refl _ _ | assumption | refine Below.drew ?_ | refine below_drewN ?_ _ | refine Below.alloc' ?_ _ | (refine Below.setCell ?_ (by first | omega | (simp; done) | (simp; omega) | exact Below.size (by assumption) | exact Nat.le_trans (Below.size (by assumption)) (by simp)) _) | (refine Below.via' ?_ (by assumption)) | (refine Below.alloc ?_ (by first | omega | (simp; done) | (simp; omega) | exact Below.size (by assumption) | exact Nat.le_trans (Below.size (by assumption)) (by simp)) _) | (refine Below.via ?_ (by assumption) (by first | omega | (simp; done) | (simp; omega) | exact Below.size (by assumption) | exact Nat.le_trans (Below.size (by assumption)) (by simp))))))) (hQh.out.below (by exact (by repeat (first | exact Below.refl _ _ | assumption | refine Below.drew ?_ | refine below_drewN ?_ _ | refine Below.alloc' ?_ _ | (refine Below.setCell ?_ (by first | omega | (simp; done) | (simp; omega) | exact Below.size (by assumption) | exact Nat.le_trans (Below.size (by assumption)) (by simp)) _) | (refine Below.via' ?_ (by assumption)) | (refine Below.alloc ?_ (by first | omega | (simp; done) | (simp; omega) | exact Below.size (by assumption) | exact Nat.le_trans (Below.size (by assumption)) (by simp)) _) | (refine Below.via ?_ (by assumption) (by first | omega | (simp; done) | (simp; omega) | exact Below.size (by assumption) | exact Nat.le_trans (Below.size (by assumption)) (by simp))))))) (hWh.out.below (by exact (by repeat (first | exact Below.refl _ _ | assumption | refine Below.drew ?_ | refine below_drewN ?_ _ | refine Below.alloc' ?_ _ | (refine Below.setCell ?_ (by first | omega | (simp; done) | (simp; omega) | exact Below.size (by assumption) | exact Nat.le_trans (Below.size (by assumption)) (by simp)) _) | (refine Below.via' ?_ (by assumption)) | (refine Below.alloc ?_ (by first | omega | (simp; done) | (simp; omega) | exact Below.size (by assumption) | exact Nat.le_trans (Below.size (by assumption)) (by simp)) _) | (refine Below.via ?_ (by assumption) (by first | omega | (simp; done) | (simp; omega) | exact Below.size (by assumption) | exact Nat.le_trans (Below.size (by assumption)) (by simp))))))) (hVh.out.below (by exact (by repeat (first | exact Below.refl _ _ | assumption | refine Below.drew ?_ | refine below_drewN ?_ _ | refine Below.alloc' ?_ _ | (refine Below.setCell ?_ (by first | omega | (simp; done) | (simp; omega) | exact Below.size (by assumption) | exact Nat.le_trans (Below.size (by assumption)) (by simp)) _) | (refine Below.via' ?_ (by assumption)) | (refine Below.alloc ?_ (by first | omega | (simp; done) | (simp; omega) | exact Below.size (by assumption) | exact Nat.le_trans (Below.size (by assumption)) (by simp)) _) | (refine Below.via ?_ (by assumption) (by first | omega | (simp; done) | (simp; omega) | exact Below.size (by assumption) | exact Nat.le_trans (Below.size (by assumption)) (by simp)))))))).mono ?_
  rintro e w3 ⟨vv, mv, rfl, hov, hom, hb3⟩
  obtain ⟨xv, cv, rfl, -, -⟩ := (OwR.of hov).form
  obtain ⟨xm, cm, rfl, -, -⟩ := (OwR.of hom).form
  have hB3 : Below w.heap.size w w3 := hB2.trans (hb3.mono hs2)
  cases hk : ckO S (eM Q) W V with
  | none =>
    have hno := Lib.hid (dm_no3 (D := D) hk)
    clear hk hov hom
    go_wp2
    go_ret3
    exact retLBB_no hno.out (by repeat (first | exact Below.refl _ _ | assumption | refine Below.drew ?_ | refine below_drewN ?_ _ | refine Below.alloc' ?_ _ | (refine Below.setCell ?_ (by first | omega | (simp; done) | (simp; omega) | exact Below.size (by assumption) | exact Nat.le_trans (Below.size (by assumption)) (by simp)) _) | (refine Below.via' ?_ (by assumption)) | (refine Below.alloc ?_ (by first | omega | (simp; done) | (simp; omega) | exact Below.size (by assumption) | exact Nat.le_trans (Below.size (by assumption)) (by simp)) _) | (refine Below.via ?_ (by assumption) (by first | omega | (simp; done) | (simp; omega) | exact Below.size (by assumption) | exact Nat.le_trans (Below.size (by assumption)) (by simp)))))
  | some b =>
    obtain ⟨hg1, hg2⟩ := dm_go hch.out hfD.out hk
    have hat := Lib.hid (fun (i : Nat) (v : Int) (hv : b[i]? = some v) => ck_at hsh.out hk hv)
    rw [hk] at hov
    dsimp only [Option.getD] at hov
    have hovh := Lib.hid (OwR.of hov)
    have homh := Lib.hid (OwR.of hom)
    have hg1h := Lib.hid hg1
    have hg2h := Lib.hid hg2
    have hkh := Lib.hid hk
    have hzb := Wb.new w3 78 #[.slice xv b.length cv, .int .i64 (swZ W b), .slice xm (mvL S (eM Q) W V).length cm]
    have hzbh := Lib.hid hzb
    have hbl : b.length ≤ 8 := by obtain ⟨_, st, rfl, _⟩ := ck_ok hk; exact lvsL_len _
    clear hk hov hom hg1 hg2 hzb
    dsimp only [Option.getD, Option.isSome]
    go_wp2_with fail
    refine (cloneInt_any _ _ V _ hmV hc hnil (hVh.out.2.2.below (by exact (by repeat (first | exact Below.refl _ _ | assumption | refine Below.drew ?_ | refine below_drewN ?_ _ | refine Below.alloc' ?_ _ | (refine Below.setCell ?_ (by first | omega | (simp; done) | (simp; omega) | exact Below.size (by assumption) | exact Nat.le_trans (Below.size (by assumption)) (by simp)) _) | (refine Below.via' ?_ (by assumption)) | (refine Below.alloc ?_ (by first | omega | (simp; done) | (simp; omega) | exact Below.size (by assumption) | exact Nat.le_trans (Below.size (by assumption)) (by simp)) _) | (refine Below.via ?_ (by assumption) (by first | omega | (simp; done) | (simp; omega) | exact Below.size (by assumption) | exact Nat.le_trans (Below.size (by assumption)) (by simp)))))))).mono ?_
    rintro e w4 ⟨u4, rfl, ho4, hb4⟩
    obtain ⟨g, cap, rfl⟩ := own_some ho4 (by have := hlV.out; omega)
    have hgb4 := own_lt ho4
    simp only [World.size_alloc] at hgb4
    have hg3 : w3.heap.size < g := by omega
    have hb34 : Below w3.heap.size w3 w4 := (by repeat (first | exact Below.refl _ _ | assumption | refine Below.drew ?_ | refine below_drewN ?_ _ | refine Below.alloc' ?_ _ | (refine Below.setCell ?_ (by first | omega | (simp; done) | (simp; omega) | exact Below.size (by assumption) | exact Nat.le_trans (Below.size (by assumption)) (by simp)) _) | (refine Below.via' ?_ (by assumption)) | (refine Below.alloc ?_ (by first | omega | (simp; done) | (simp; omega) | exact Below.size (by assumption) | exact Nat.le_trans (Below.size (by assumption)) (by simp)) _) | (refine Below.via ?_ (by assumption) (by first | omega | (simp; done) | (simp; omega) | exact Below.size (by assumption) | exact Nat.le_trans (Below.size (by assumption)) (by simp)))))
    have z4 := hzbh.out.kept hb4
    have d0 : w4.cell? ⟨w3.heap.size, 0, none⟩ = some (.slice xv b.length cv) := z4.read 0
    have hov4 := hovh.out.below hb34
    have hom4 := homh.out.below hb34
    have hB4 : Below w.heap.size w w4 := hB3.trans (hb34.mono hB3.size)
    have hs3 := hB3.size
    have ho4w : Hid (w4.ownsRow w3.heap.size 3 1 (.slice (some ⟨g, 0, none⟩) V.length cap) V.length (iC (rpL (b.take 0) V D))) := own_more (base' := w3.heap.size) ho4 (by simp)
    have z4h := Lib.hid z4
    clear ho4 hb4 z4 hzbh hovh homh
    go_wp2
    go_loopw [45] (fun c wr => ∃ i : Nat, i ≤ b.length ∧ c = .int .i64 i ∧ wr.ownsRow w3.heap.size 3 1 (.slice (some ⟨g, 0, none⟩) V.length cap) V.length (iC (rpL (b.take i) V D)) ∧ OwR wr w2.heap.size w3.heap.size 3 1 (.slice xv b.length cv) b.length (iC b) ∧ OwR wr w2.heap.size w3.heap.size 3 1 (.slice xm (mvL S (eM Q) W V).length cm) (mvL S (eM Q) W V).length (iC (mvL S (eM Q) W V)) ∧ Wb wr w3.heap.size 78 #[.slice xv b.length cv, .int .i64 (swZ W b), .slice xm (mvL S (eM Q) W V).length cm] ∧ Below w.heap.size w wr) (fun c _ => b.length - (intOf c).toNat)
    case atStart => exact ⟨0, by omega, rfl, ho4w.out, hov4, hom4, z4h.out, hB4⟩
    case round =>
      clear ho4w hov4 hom4 z4h hB4 d0
      obtain ⟨i, hi, rfl, hown, hovr, homr, hzr, hBr⟩ := hrel
      have hownh := Lib.hid hown
      have hovh := Lib.hid hovr
      have homh := Lib.hid homr
      have hzh := Lib.hid hzr
      have hbr := hBr.size
      clear homr hzr
      by_cases hlt : i < b.length
      · obtain ⟨bl, off, v, hxv, hbl1, hbi, hc0⟩ := hovr.rd.int hlt
        obtain ⟨n, rfl, hn⟩ := hat.out i v hbi
        obtain ⟨bl2, off2, d, rfl, hbl2, hDn, hc1⟩ := (hDh.out.below hBr).2.2.int (i := n) (by have := hlD.out; omega)
        have hst2 := Lib.hid (rp_step (V := V) hbi hDn)
        have hrl := rp_len (b.take i) V D
        obtain ⟨u0, hu0, k0⟩ := own_cell hown (j := n) (by have := hlV.out; omega)
        obtain ⟨a0, ha0⟩ : ∃ a0, (rpL (b.take i) V D)[n]? = some a0 := ⟨_, List.getElem?_eq_getElem (by have := hlV.out; omega)⟩
        obtain rfl : u0 = .int .i64 a0 := Option.some.inj (hu0.symm.trans (iC_at ha0))
        have k2 := hown.frozenAt n
        have hst := Lib.hid (hown.stored n (.int .i64 d))
        have hlt' : (i : Int) < (b.length : Int) := by omega
        have hi0 : (0 : Int) ≤ (i : Int) := by omega
        have hnV : (n : Int) < (V.length : Int) := by have := hlV.out; omega
        have hnD : (n : Int) < (D.length : Int) := by have := hlD.out; omega
        have hn0 : (0 : Int) ≤ (n : Int) := by omega
        have hxh := Lib.hid hxv
        have hgg : ∀ k, (Value.slice (some ⟨g, 0, none⟩) V.length cap).ownBlock = some k → k < w2.heap.size ∨ w3.heap.size ≤ k := fun k hk => by
          have e : g = k := by injection hk
          omega
        have hggh := Lib.hid hgg
        have hne : Hid ((Value.slice (some ⟨g, 0, none⟩) V.length cap).ownBlock ≠ some w3.heap.size) := fun hk => by
          have e : g = w3.heap.size := by injection hk
          omega
        clear hu0 ha0 hbi hDn hown hovr hxv hgg hrl
        rw [hxh.out]
        go_wp2
        go_roundw
        case rel => exact ⟨i + 1, by omega, by go_num, by rw [← hst2.out, iC_setE]; exact hst.out.1, (by first | exact hovh.out.keep hst.out.2 hggh.out | (rw [← hxh.out]; exact hovh.out.keep hst.out.2 hggh.out)), homh.out.keep hst.out.2 hggh.out, (by first | exact wb_far hzh.out hst.out.2 hne.out | (rw [← hxh.out]; exact wb_far hzh.out hst.out.2 hne.out)), (by repeat (first | exact Below.refl _ _ | assumption | refine Below.drew ?_ | refine below_drewN ?_ _ | refine Below.alloc' ?_ _ | (refine Below.setCell ?_ (by first | omega | (simp; done) | (simp; omega) | exact Below.size (by assumption) | exact Nat.le_trans (Below.size (by assumption)) (by simp)) _) | (refine Below.via' ?_ (by assumption)) | (refine Below.alloc ?_ (by first | omega | (simp; done) | (simp; omega) | exact Below.size (by assumption) | exact Nat.le_trans (Below.size (by assumption)) (by simp)) _) | (refine Below.via ?_ (by assumption) (by first | omega | (simp; done) | (simp; omega) | exact Below.size (by assumption) | exact Nat.le_trans (Below.size (by assumption)) (by simp)))))⟩
        case measure => simp [intOf]; omega
      · have hij : i = b.length := by omega
        subst hij
        have hR : Hid (wr.ownsRow w3.heap.size 3 1 (.slice (some ⟨g, 0, none⟩) V.length cap) V.length (iC (dmR S (eM Q) W V D))) := by
          have h0 := hownh.out
          rw [List.take_length, ← hg2h.out] at h0
          exact h0
        have hlR : Hid ((dmR S (eM Q) W V D).length = V.length) := by unfold Hid; rw [hg2h.out, rp_len]
        have hfR : Hid (fitB S (dmR S (eM Q) W V D) = true) := by unfold Hid; rw [hg2h.out]; exact rp_fit hfV.out hfD.out
        have hiR := fit_iinD hsh.out hfR.out (Rd.of_own hR.out)
        have hfi := fun E hE => fine_of hsh.out (hedh.out E hE) hfR.out
        have hcall := failsAny_any _ _ c2 cap Q (dmR S (eM Q) W V D) wr hfi (hQh.out.below hBr) hiR
        rw [hlR.out] at hcall
        have hcallh := Lib.hid hcall
        clear hown hovr hownh hiR hfi hcall
        go_wp2_with fail
        refine hcallh.out.mono ?_
        rintro e w5 ⟨rfl, hb5⟩
        have hB5 : Below w.heap.size w w5 := hBr.trans (hb5.mono hbr)
        cases hfa : faB (eM Q) (dmR S (eM Q) W V D)
        · have hp := Lib.hid (dm_put hg1h.out hfa)
          have hfin : Hid (w5.ownsRow w.heap.size 3 1 (.slice (some ⟨g, 0, none⟩) V.length cap) (dmR S (eM Q) W V D).length (iC (dmR S (eM Q) W V D))) := own_eq (own_more (own_below hR.out hb5) hs3) hlR.out.symm rfl
          clear hfa hcallh
          go_wp2
          go_ret3
          exact retLBB_of hp.out.2.symm hg1h.out.symm (by rw [hp.out.1]; exact hfin.out) hB5
        · have hp := Lib.hid (dm_mend hg1h.out hfa)
          have z5 := hzh.out.kept hb5
          have d2 : w5.cell? ⟨w3.heap.size, 2, none⟩ = some (.slice xm (mvL S (eM Q) W V).length cm) := z5.read 2
          have hfin := Lib.hid (own_more (base' := w.heap.size) (homh.out.below hb5).1 hs2)
          have hB5h := Lib.hid hB5
          clear hfa hcallh
          go_wp2
          go_ret3
          exact retLBB_of hp.out.2.symm hg1h.out.symm (by rw [hp.out.1]; exact hfin.out) hB5h.out
set_option maxHeartbeats 8000000 in
theorem sDM_x (x y z u p : Option Addr) (c1 c2 c3 c4 c5 : Nat) (S : List (ByteArray × Int)) (Q : List PR) (W V D : List Int) (w : World) (hS : SIn w x c1 S) (hQ : EIn w y Q) (hW : IIn w z W) (hV : IIn w u V) (hD : IIn w p D) (hc : V.length ≤ c4) (hnil : u = none → c4 = 0) :
    Calls Tryz.prog 24 #[.slice x S.length c1, .slice y Q.length c2, .slice z W.length c3, .slice u V.length c4, .slice p D.length c5] w (RetLBB (dmL S (eM Q) W V D) (dmB S (eM Q) W V D) (dmG S (eM Q) W V D) w) := by
  have hSh := Lib.hid hS
  have hQh := Lib.hid hQ
  have hWh := Lib.hid hW
  have hVh := Lib.hid hV
  have hDh := Lib.hid hD
  have hm := hS.1
  have hmV := hV.1
  clear hS hQ hW hV hD
  go_enter Tryz.func24, Tryz.ntmps24
  go_wp2_with fail
  refine (iInput_any _ _ _ _ _ _ _ _ S Q W V _ (hSh.out.below (by exact (by repeat (first | exact Below.refl _ _ | assumption | refine Below.drew ?_ | refine below_drewN ?_ _ | refine Below.alloc' ?_ _ | (refine Below.setCell ?_ (by first | omega | (simp; done) | (simp; omega) | exact Below.size (by assumption) | exact Nat.le_trans (Below.size (by assumption)) (by simp)) _) | (refine Below.via' ?_ (by assumption)) | (refine Below.alloc ?_ (by first | omega | (simp; done) | (simp; omega) | exact Below.size (by assumption) | exact Nat.le_trans (Below.size (by assumption)) (by simp)) _) | (refine Below.via ?_ (by assumption) (by first | omega | (simp; done) | (simp; omega) | exact Below.size (by assumption) | exact Nat.le_trans (Below.size (by assumption)) (by simp))))))) (hQh.out.below (by exact (by repeat (first | exact Below.refl _ _ | assumption | refine Below.drew ?_ | refine below_drewN ?_ _ | refine Below.alloc' ?_ _ | (refine Below.setCell ?_ (by first | omega | (simp; done) | (simp; omega) | exact Below.size (by assumption) | exact Nat.le_trans (Below.size (by assumption)) (by simp)) _) | (refine Below.via' ?_ (by assumption)) | (refine Below.alloc ?_ (by first | omega | (simp; done) | (simp; omega) | exact Below.size (by assumption) | exact Nat.le_trans (Below.size (by assumption)) (by simp)) _) | (refine Below.via ?_ (by assumption) (by first | omega | (simp; done) | (simp; omega) | exact Below.size (by assumption) | exact Nat.le_trans (Below.size (by assumption)) (by simp))))))) (hWh.out.below (by exact (by repeat (first | exact Below.refl _ _ | assumption | refine Below.drew ?_ | refine below_drewN ?_ _ | refine Below.alloc' ?_ _ | (refine Below.setCell ?_ (by first | omega | (simp; done) | (simp; omega) | exact Below.size (by assumption) | exact Nat.le_trans (Below.size (by assumption)) (by simp)) _) | (refine Below.via' ?_ (by assumption)) | (refine Below.alloc ?_ (by first | omega | (simp; done) | (simp; omega) | exact Below.size (by assumption) | exact Nat.le_trans (Below.size (by assumption)) (by simp)) _) | (refine Below.via ?_ (by assumption) (by first | omega | (simp; done) | (simp; omega) | exact Below.size (by assumption) | exact Nat.le_trans (Below.size (by assumption)) (by simp))))))) (hVh.out.below (by exact (by repeat (first | exact Below.refl _ _ | assumption | refine Below.drew ?_ | refine below_drewN ?_ _ | refine Below.alloc' ?_ _ | (refine Below.setCell ?_ (by first | omega | (simp; done) | (simp; omega) | exact Below.size (by assumption) | exact Nat.le_trans (Below.size (by assumption)) (by simp)) _) | (refine Below.via' ?_ (by assumption)) | (refine Below.alloc ?_ (by first | omega | (simp; done) | (simp; omega) | exact Below.size (by assumption) | exact Nat.le_trans (Below.size (by assumption)) (by simp)) _) | (refine Below.via ?_ (by assumption) (by first | omega | (simp; done) | (simp; omega) | exact Below.size (by assumption) | exact Nat.le_trans (Below.size (by assumption)) (by simp)))))))).mono ?_
  rintro e w1 ⟨rfl, hb1⟩
  cases hcm : cmB S (eM Q) W V
  · have hno := Lib.hid (dm_no1 (D := D) hcm)
    clear hcm
    go_wp2
    go_ret3
    exact retLBB_no hno.out (by repeat (first | exact Below.refl _ _ | assumption | refine Below.drew ?_ | refine below_drewN ?_ _ | refine Below.alloc' ?_ _ | (refine Below.setCell ?_ (by first | omega | (simp; done) | (simp; omega) | exact Below.size (by assumption) | exact Nat.le_trans (Below.size (by assumption)) (by simp)) _) | (refine Below.via' ?_ (by assumption)) | (refine Below.alloc ?_ (by first | omega | (simp; done) | (simp; omega) | exact Below.size (by assumption) | exact Nat.le_trans (Below.size (by assumption)) (by simp)) _) | (refine Below.via ?_ (by assumption) (by first | omega | (simp; done) | (simp; omega) | exact Below.size (by assumption) | exact Nat.le_trans (Below.size (by assumption)) (by simp)))))
  have hch := Lib.hid hcm
  obtain ⟨k1, -, k3⟩ := cm_get hcm
  have hs := (el_get (sm_get k1).1).1
  have hl40 := (el_get (sm_get k1).1).2.1
  have hedh := Lib.hid (el_get (sm_get k1).1).2.2
  rw [eM_len] at hl40
  have hsh := Lib.hid hs
  have hfV := Lib.hid k3
  have hl6 := schB_len hs
  have hlV := Lib.hid (fit_len k3)
  clear hcm k1 k3 hs
  go_wp2_with fail
  refine (sFits_any _ _ _ _ S D _ hsh.out hm (hSh.out.rd.below (by exact (by repeat (first | exact Below.refl _ _ | assumption | refine Below.drew ?_ | refine below_drewN ?_ _ | refine Below.alloc' ?_ _ | (refine Below.setCell ?_ (by first | omega | (simp; done) | (simp; omega) | exact Below.size (by assumption) | exact Nat.le_trans (Below.size (by assumption)) (by simp)) _) | (refine Below.via' ?_ (by assumption)) | (refine Below.alloc ?_ (by first | omega | (simp; done) | (simp; omega) | exact Below.size (by assumption) | exact Nat.le_trans (Below.size (by assumption)) (by simp)) _) | (refine Below.via ?_ (by assumption) (by first | omega | (simp; done) | (simp; omega) | exact Below.size (by assumption) | exact Nat.le_trans (Below.size (by assumption)) (by simp))))))) (hDh.out.below (by exact (by repeat (first | exact Below.refl _ _ | assumption | refine Below.drew ?_ | refine below_drewN ?_ _ | refine Below.alloc' ?_ _ | (refine Below.setCell ?_ (by first | omega | (simp; done) | (simp; omega) | exact Below.size (by assumption) | exact Nat.le_trans (Below.size (by assumption)) (by simp)) _) | (refine Below.via' ?_ (by assumption)) | (refine Below.alloc ?_ (by first | omega | (simp; done) | (simp; omega) | exact Below.size (by assumption) | exact Nat.le_trans (Below.size (by assumption)) (by simp)) _) | (refine Below.via ?_ (by assumption) (by first | omega | (simp; done) | (simp; omega) | exact Below.size (by assumption) | exact Nat.le_trans (Below.size (by assumption)) (by simp)))))))).mono ?_
  rintro e w2 ⟨rfl, hb2⟩
  have hB2 : Below w.heap.size w w2 := (by repeat (first | exact Below.refl _ _ | assumption | refine Below.drew ?_ | refine below_drewN ?_ _ | refine Below.alloc' ?_ _ | (refine Below.setCell ?_ (by first | omega | (simp; done) | (simp; omega) | exact Below.size (by assumption) | exact Nat.le_trans (Below.size (by assumption)) (by simp)) _) | (refine Below.via' ?_ (by assumption)) | (refine Below.alloc ?_ (by first | omega | (simp; done) | (simp; omega) | exact Below.size (by assumption) | exact Nat.le_trans (Below.size (by assumption)) (by simp)) _) | (refine Below.via ?_ (by assumption) (by first | omega | (simp; done) | (simp; omega) | exact Below.size (by assumption) | exact Nat.le_trans (Below.size (by assumption)) (by simp)))))
  cases hfd : fitB S D
  · have hno := Lib.hid (dm_no2 (M := eM Q) (W := W) (V := V) hfd)
    clear hfd
    go_wp2
    go_ret3
    exact retLBB_no hno.out (by repeat (first | exact Below.refl _ _ | assumption | refine Below.drew ?_ | refine below_drewN ?_ _ | refine Below.alloc' ?_ _ | (refine Below.setCell ?_ (by first | omega | (simp; done) | (simp; omega) | exact Below.size (by assumption) | exact Nat.le_trans (Below.size (by assumption)) (by simp)) _) | (refine Below.via' ?_ (by assumption)) | (refine Below.alloc ?_ (by first | omega | (simp; done) | (simp; omega) | exact Below.size (by assumption) | exact Nat.le_trans (Below.size (by assumption)) (by simp)) _) | (refine Below.via ?_ (by assumption) (by first | omega | (simp; done) | (simp; omega) | exact Below.size (by assumption) | exact Nat.le_trans (Below.size (by assumption)) (by simp)))))
  have hfD := Lib.hid hfd
  have hlD := Lib.hid (fit_len hfd)
  have hs2 := hB2.size
  clear hfd hb1 hb2
  go_wp2_with fail
  refine (iCheapest_any _ _ _ _ _ _ _ _ S Q W V _ hch.out (hSh.out.below (by exact (by repeat (first | exact Below.refl _ _ | assumption | refine Below.drew ?_ | refine below_drewN ?_ _ | refine Below.alloc' ?_ _ | (refine Below.setCell ?_ (by first | omega | (simp; done) | (simp; omega) | exact Below.size (by assumption) | exact Nat.le_trans (Below.size (by assumption)) (by simp)) _) | (refine Below.via' ?_ (by assumption)) | (refine Below.alloc ?_ (by first | omega | (simp; done) | (simp; omega) | exact Below.size (by assumption) | exact Nat.le_trans (Below.size (by assumption)) (by simp)) _) | (refine Below.via ?_ (by assumption) (by first | omega | (simp; done) | (simp; omega) | exact Below.size (by assumption) | exact Nat.le_trans (Below.size (by assumption)) (by simp))))))) (hQh.out.below (by exact (by repeat (first | exact Below.refl _ _ | assumption | refine Below.drew ?_ | refine below_drewN ?_ _ | refine Below.alloc' ?_ _ | (refine Below.setCell ?_ (by first | omega | (simp; done) | (simp; omega) | exact Below.size (by assumption) | exact Nat.le_trans (Below.size (by assumption)) (by simp)) _) | (refine Below.via' ?_ (by assumption)) | (refine Below.alloc ?_ (by first | omega | (simp; done) | (simp; omega) | exact Below.size (by assumption) | exact Nat.le_trans (Below.size (by assumption)) (by simp)) _) | (refine Below.via ?_ (by assumption) (by first | omega | (simp; done) | (simp; omega) | exact Below.size (by assumption) | exact Nat.le_trans (Below.size (by assumption)) (by simp))))))) (hWh.out.below (by exact (by repeat (first | exact Below.refl _ _ | assumption | refine Below.drew ?_ | refine below_drewN ?_ _ | refine Below.alloc' ?_ _ | (refine Below.setCell ?_ (by first | omega | (simp; done) | (simp; omega) | exact Below.size (by assumption) | exact Nat.le_trans (Below.size (by assumption)) (by simp)) _) | (refine Below.via' ?_ (by assumption)) | (refine Below.alloc ?_ (by first | omega | (simp; done) | (simp; omega) | exact Below.size (by assumption) | exact Nat.le_trans (Below.size (by assumption)) (by simp)) _) | (refine Below.via ?_ (by assumption) (by first | omega | (simp; done) | (simp; omega) | exact Below.size (by assumption) | exact Nat.le_trans (Below.size (by assumption)) (by simp))))))) (hVh.out.below (by exact (by repeat (first | exact Below.refl _ _ | assumption | refine Below.drew ?_ | refine below_drewN ?_ _ | refine Below.alloc' ?_ _ | (refine Below.setCell ?_ (by first | omega | (simp; done) | (simp; omega) | exact Below.size (by assumption) | exact Nat.le_trans (Below.size (by assumption)) (by simp)) _) | (refine Below.via' ?_ (by assumption)) | (refine Below.alloc ?_ (by first | omega | (simp; done) | (simp; omega) | exact Below.size (by assumption) | exact Nat.le_trans (Below.size (by assumption)) (by simp)) _) | (refine Below.via ?_ (by assumption) (by first | omega | (simp; done) | (simp; omega) | exact Below.size (by assumption) | exact Nat.le_trans (Below.size (by assumption)) (by simp)))))))).mono ?_
  rintro e w3 ⟨vv, rfl, hov, hb3⟩
  obtain ⟨xv, cv, rfl, -, -⟩ := (OwR.of hov).form
  have hB3 : Below w.heap.size w w3 := hB2.trans (hb3.mono hs2)
  cases hk : ckO S (eM Q) W V with
  | none =>
    have hno := Lib.hid (dm_no3 (D := D) hk)
    clear hk hov
    go_wp2
    go_ret3
    exact retLBB_no hno.out (by repeat (first | exact Below.refl _ _ | assumption | refine Below.drew ?_ | refine below_drewN ?_ _ | refine Below.alloc' ?_ _ | (refine Below.setCell ?_ (by first | omega | (simp; done) | (simp; omega) | exact Below.size (by assumption) | exact Nat.le_trans (Below.size (by assumption)) (by simp)) _) | (refine Below.via' ?_ (by assumption)) | (refine Below.alloc ?_ (by first | omega | (simp; done) | (simp; omega) | exact Below.size (by assumption) | exact Nat.le_trans (Below.size (by assumption)) (by simp)) _) | (refine Below.via ?_ (by assumption) (by first | omega | (simp; done) | (simp; omega) | exact Below.size (by assumption) | exact Nat.le_trans (Below.size (by assumption)) (by simp)))))
  | some b =>
    obtain ⟨hg1, hg2⟩ := dm_go hch.out hfD.out hk
    have hat := Lib.hid (fun (i : Nat) (v : Int) (hv : b[i]? = some v) => ck_at hsh.out hk hv)
    rw [hk] at hov
    dsimp only [Option.getD] at hov
    have hovh := Lib.hid (OwR.of hov)
    have hg1h := Lib.hid hg1
    have hg2h := Lib.hid hg2
    have hkh := Lib.hid hk
    have hbl : b.length ≤ 8 := by obtain ⟨_, st, rfl, _⟩ := ck_ok hk; exact lvsL_len _
    clear hk hov hg1 hg2
    dsimp only [Option.getD, Option.isSome]
    go_wp2_with fail
    refine (l1Own_any _ _ V _ hmV hc hnil (hVh.out.2.2.below (by exact (by repeat (first | exact Below.refl _ _ | assumption | refine Below.drew ?_ | refine below_drewN ?_ _ | refine Below.alloc' ?_ _ | (refine Below.setCell ?_ (by first | omega | (simp; done) | (simp; omega) | exact Below.size (by assumption) | exact Nat.le_trans (Below.size (by assumption)) (by simp)) _) | (refine Below.via' ?_ (by assumption)) | (refine Below.alloc ?_ (by first | omega | (simp; done) | (simp; omega) | exact Below.size (by assumption) | exact Nat.le_trans (Below.size (by assumption)) (by simp)) _) | (refine Below.via ?_ (by assumption) (by first | omega | (simp; done) | (simp; omega) | exact Below.size (by assumption) | exact Nat.le_trans (Below.size (by assumption)) (by simp)))))))).mono ?_
    rintro e w4 ⟨u4, rfl, ho4, hb4⟩
    obtain ⟨g, cap, rfl⟩ := own_some ho4 (by have := hlV.out; omega)
    have hgb4 := own_lt ho4
    have hg3 : w3.heap.size ≤ g := by omega
    have hov4 := hovh.out.below hb4
    have hB4 : Below w.heap.size w w4 := hB3.trans (hb4.mono hB3.size)
    have hs3 := hB3.size
    have ho4w : Hid (w4.ownsRow w3.heap.size 3 1 (.slice (some ⟨g, 0, none⟩) V.length cap) V.length (iC (rpL (b.take 0) V D))) := ho4
    clear ho4 hb4 hovh
    go_wp2
    go_loopw [46] (fun c wr => ∃ i : Nat, i ≤ b.length ∧ c = .int .i64 i ∧ wr.ownsRow w3.heap.size 3 1 (.slice (some ⟨g, 0, none⟩) V.length cap) V.length (iC (rpL (b.take i) V D)) ∧ OwR wr w2.heap.size w3.heap.size 3 1 (.slice xv b.length cv) b.length (iC b) ∧ Below w.heap.size w wr) (fun c _ => b.length - (intOf c).toNat)
    case atStart => exact ⟨0, by omega, rfl, ho4w.out, hov4, hB4⟩
    case round =>
      clear ho4w hov4 hB4
      obtain ⟨i, hi, rfl, hown, hovr, hBr⟩ := hrel
      have hownh := Lib.hid hown
      have hovh := Lib.hid hovr
      have hbr := hBr.size
      by_cases hlt : i < b.length
      · obtain ⟨bl, off, v, hxv, hbl1, hbi, hc0⟩ := hovr.rd.int hlt
        obtain ⟨n, rfl, hn⟩ := hat.out i v hbi
        obtain ⟨bl2, off2, d, rfl, hbl2, hDn, hc1⟩ := (hDh.out.below hBr).2.2.int (i := n) (by have := hlD.out; omega)
        have hst2 := Lib.hid (rp_step (V := V) hbi hDn)
        have hrl := rp_len (b.take i) V D
        obtain ⟨u0, hu0, k0⟩ := own_cell hown (j := n) (by have := hlV.out; omega)
        obtain ⟨a0, ha0⟩ : ∃ a0, (rpL (b.take i) V D)[n]? = some a0 := ⟨_, List.getElem?_eq_getElem (by have := hlV.out; omega)⟩
        obtain rfl : u0 = .int .i64 a0 := Option.some.inj (hu0.symm.trans (iC_at ha0))
        have k2 := hown.frozenAt n
        have hst := Lib.hid (hown.stored n (.int .i64 d))
        have hlt' : (i : Int) < (b.length : Int) := by omega
        have hi0 : (0 : Int) ≤ (i : Int) := by omega
        have hnV : (n : Int) < (V.length : Int) := by have := hlV.out; omega
        have hnD : (n : Int) < (D.length : Int) := by have := hlD.out; omega
        have hn0 : (0 : Int) ≤ (n : Int) := by omega
        have hxh := Lib.hid hxv
        have hgg : ∀ k, (Value.slice (some ⟨g, 0, none⟩) V.length cap).ownBlock = some k → k < w2.heap.size ∨ w3.heap.size ≤ k := fun k hk => by
          have e : g = k := by injection hk
          omega
        have hggh := Lib.hid hgg
        clear hu0 ha0 hbi hDn hown hovr hxv hgg hrl
        rw [hxh.out]
        go_wp2
        go_roundw
        case rel => exact ⟨i + 1, by omega, by go_num, by rw [← hst2.out, iC_setE]; exact hst.out.1, (by first | exact hovh.out.keep hst.out.2 hggh.out | (rw [← hxh.out]; exact hovh.out.keep hst.out.2 hggh.out)), (by repeat (first | exact Below.refl _ _ | assumption | refine Below.drew ?_ | refine below_drewN ?_ _ | refine Below.alloc' ?_ _ | (refine Below.setCell ?_ (by first | omega | (simp; done) | (simp; omega) | exact Below.size (by assumption) | exact Nat.le_trans (Below.size (by assumption)) (by simp)) _) | (refine Below.via' ?_ (by assumption)) | (refine Below.alloc ?_ (by first | omega | (simp; done) | (simp; omega) | exact Below.size (by assumption) | exact Nat.le_trans (Below.size (by assumption)) (by simp)) _) | (refine Below.via ?_ (by assumption) (by first | omega | (simp; done) | (simp; omega) | exact Below.size (by assumption) | exact Nat.le_trans (Below.size (by assumption)) (by simp)))))⟩
        case measure => simp [intOf]; omega
      · have hij : i = b.length := by omega
        subst hij
        have hR : Hid (wr.ownsRow w3.heap.size 3 1 (.slice (some ⟨g, 0, none⟩) V.length cap) V.length (iC (dmR S (eM Q) W V D))) := by
          have h0 := hownh.out
          rw [List.take_length, ← hg2h.out] at h0
          exact h0
        have hlR : Hid ((dmR S (eM Q) W V D).length = V.length) := by unfold Hid; rw [hg2h.out, rp_len]
        have hfR : Hid (fitB S (dmR S (eM Q) W V D) = true) := by unfold Hid; rw [hg2h.out]; exact rp_fit hfV.out hfD.out
        have hiR := fit_iinD hsh.out hfR.out (Rd.of_own hR.out)
        have hfi := fun E hE => fine_of hsh.out (hedh.out E hE) hfR.out
        have hcall := eFailed_any _ _ c2 cap Q (dmR S (eM Q) W V D) wr hl40 hfi (hQh.out.below hBr) hiR
        rw [hlR.out] at hcall
        have hcallh := Lib.hid hcall
        have hfn := fe_none (M := eM Q) (V := dmR S (eM Q) W V D)
        clear hown hovr hownh hovh hiR hfi hcall
        go_wp2_with fail
        refine hcallh.out.mono ?_
        rintro e w5 ⟨u5, rfl, ho5, hb5⟩
        obtain ⟨x5, n5, rfl, -, -⟩ := (OwR.of ho5).form
        have hB5 : Below w.heap.size w w5 := hBr.trans (hb5.mono hbr)
        clear ho5
        cases hfa : faB (eM Q) (dmR S (eM Q) W V D)
        · have hp := Lib.hid (dm_put hg1h.out hfa)
          have hz0 := Lib.hid (hfn.2 hfa)
          have hfin : Hid (w5.ownsRow w.heap.size 3 1 (.slice (some ⟨g, 0, none⟩) V.length cap) (dmR S (eM Q) W V D).length (iC (dmR S (eM Q) W V D))) := own_eq (own_more (own_below hR.out hb5) hs3) hlR.out.symm rfl
          clear hfa hcallh hfn
          rw [hz0.out]
          go_wp2
          go_ret3
          exact retLBB_of hp.out.2.symm hg1h.out.symm (by rw [hp.out.1]; exact hfin.out) hB5
        · have hp := Lib.hid (dm_mend hg1h.out hfa)
          have hz : (0 : Int) < ((feL (eM Q) (dmR S (eM Q) W V D)).length : Int) := by
            rcases Nat.eq_zero_or_pos (feL (eM Q) (dmR S (eM Q) W V D)).length with h0 | h0
            · rw [hfn.1 h0] at hfa; cases hfa
            · omega
          have hs5 := hB5.size
          clear hfa hcallh hfn
          go_wp2_with fail
          refine (iMend_any _ _ _ _ _ _ _ _ S Q W V _ hch.out (hSh.out.below (by exact hB5)) (hQh.out.below (by exact hB5)) (hWh.out.below (by exact hB5)) (hVh.out.below (by exact hB5))).mono ?_
          rintro e w6 ⟨u6, rfl, ho6, hb6⟩
          have hfin := Lib.hid (own_more (base' := w.heap.size) ho6 hs5)
          have hB6 : Below w.heap.size w w6 := hB5.trans (hb6.mono hs5)
          clear ho6 hb6
          go_wp2
          go_ret3
          exact retLBB_of hp.out.2.symm hg1h.out.symm (by rw [hp.out.1]; exact hfin.out) hB6
theorem sDM_m (x y z u p : Option Addr) (c1 c2 c3 c4 c5 : Nat) (S : List (ByteArray × Int)) (Q : List PR) (W V D : List Int) (w : World) (hS : SIn w x c1 S) (hQ : EIn w y Q) (hW : IIn w z W) (hV : IIn w u V) (hD : IIn w p D) (M : List (List Int)) (hM : eM Q = M) (hc : V.length ≤ c4) (hnil : u = none → c4 = 0) :
    Calls Tryz.prog 24 #[.slice x S.length c1, .slice y Q.length c2, .slice z W.length c3, .slice u V.length c4, .slice p D.length c5] w (RetLBB (dmL S M W V D) (dmB S M W V D) (dmG S M W V D) w) := by subst hM; exact sDM_x x y z u p c1 c2 c3 c4 c5 S Q W V D w hS hQ hW hV hD hc hnil
theorem iDM_m (x y z u p : Option Addr) (c1 c2 c3 c4 c5 : Nat) (S : List (ByteArray × Int)) (Q : List PR) (W V D : List Int) (w : World) (hS : SIn w x c1 S) (hQ : EIn w y Q) (hW : IIn w z W) (hV : IIn w u V) (hD : IIn w p D) (M : List (List Int)) (hM : eM Q = M) (hc : V.length ≤ c4) (hnil : u = none → c4 = 0) :
    Calls Tryz.prog 25 #[.slice x S.length c1, .slice y Q.length c2, .slice z W.length c3, .slice u V.length c4, .slice p D.length c5] w (RetLBB (dmL S M W V D) (dmB S M W V D) (dmG S M W V D) w) := by subst hM; exact iDM_x x y z u p c1 c2 c3 c4 c5 S Q W V D w hS hQ hW hV hD hc hnil
end Go.Proofs.YtmcibcechffppaaGreat
