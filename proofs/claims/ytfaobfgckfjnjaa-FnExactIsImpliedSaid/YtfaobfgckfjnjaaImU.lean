/-
  The walks of chapter 6: IsImplied; the program's and the model's.
-/
import Derived.Test.YtfaobfgckfjnjaaImT
import Derived.Test.YtfaobfgckfjnjaaImS
import Derived.Deep.RegionHeld3
namespace Go.Proofs.Ytfaobfgckfjnjaa
open Go.RowKit Go.Shelf
set_option maxRecDepth 100000
attribute [local go_sem] Oper.semAt_some

/-- A box that holds the lists of values that pass. -/
def ImIn (S : List (ByteArray × Int)) (M : List (List Int)) (N : Nat) (w : World) (B : Nat) : Prop :=
  ∃ (x : Option Addr) (c : Nat) (T : List PR), Boxed w B 131 (.slice x T.length c) ∧ EIn w x T ∧ eM T = psL S M N
theorem ImIn.below {S : List (ByteArray × Int)} {M : List (List Int)} {N B : Nat} {w w' : World} (h : ImIn S M N w B) (hb : Below w.heap.size w w') : ImIn S M N w' B := by
  obtain ⟨x, c, T, h1, h2, h3⟩ := h
  exact ⟨x, c, T, boxed_below h1 hb, h2.below hb, h3⟩
theorem ps_iin {S : List (ByteArray × Int)} {M : List (List Int)} {N : Nat} {T : List PR} {W : World} {nb : Nat} (hs : schB S = true) (hM : eM T = psL S M N) (hr : ∀ q ∈ T, W.ownsRow nb 3 1 q.v q.L.length (iC q.L)) : ∀ q ∈ T, IIn W q.x q.L := by
  intro q hq
  obtain ⟨j, hj, e⟩ := List.getElem_of_mem hq
  have h1 : (eM T)[j]? = some q.L := eM_at (by rw [List.getElem?_eq_getElem hj, e])
  rw [hM] at h1
  unfold psL at h1
  rw [List.getElem?_map] at h1
  cases hk : (psN S M N)[j]? with
  | none => rw [hk] at h1; cases h1
  | some k =>
    rw [hk] at h1
    have h2 : atL S (k : Int) = q.L := Option.some.inj h1
    rw [← h2]
    have h3 := hr q hq
    rw [← h2] at h3
    have h4 : Rd W q.x (iC (atL S (k : Int))) := by
      have h5 := h3
      unfold PR.v at h5
      rw [← h2] at h5
      exact Rd.of_own h5
    exact atL_iin hs (by omega) h4
/-- The closure that tells whether an edit is implied. -/
def ImPost (S : List (ByteArray × Int)) (M : List (List Int)) (N : Nat) (w : World) (e : Ending) (w' : World) : Prop :=
  ∃ B : Nat, e = .returned (.func (.func 123) #[] #[.pointer (some ⟨B, 0, none⟩)]) ∧ ImIn S M N w' B ∧ Below w.heap.size w w'
set_option maxHeartbeats 2000000 in
theorem impliedBy_any (x y : Option Addr) (c1 c2 : Nat) (S : List (ByteArray × Int)) (Q : List PR) (w : World) (hel : elB S (eM Q) = true) (hS : SIn w x c1 S) (hQ : EIn w y Q) (N : Nat) (hN : cnZ S = (N : Int)) :
    Calls Try.prog 81 #[.slice x S.length c1, .slice y Q.length c2] w (ImPost S (eM Q) N w) := by
  have hs := (el_get hel).1
  obtain ⟨n1, n2⟩ := cn_all hs
  have hN2 : N ≤ 262144 := by omega
  have bS := (Boxed.new w 31 (.slice x S.length c1)).alloc (.cells #[.slice y Q.length c2] 43)
  have bQ := Boxed.new (w.alloc (.cells #[.slice x S.length c1] 31)) 43 (.slice y Q.length c2)
  have hB0 : Below w.heap.size w ((w.alloc (.cells #[.slice x S.length c1] 31)).alloc (.cells #[.slice y Q.length c2] 43)) := (by repeat (first | exact Below.refl _ _ | assumption | refine Below.drew ?_ | refine below_drewN ?_ _ | refine Below.alloc' ?_ _ | (refine Below.setCell ?_ (by first | omega | (simp; done) | (simp; omega) | exact Below.size (by assumption) | exact Nat.le_trans (Below.size (by assumption)) (by simp)) _) | (refine Below.via' ?_ (by assumption)) | (refine Below.alloc ?_ (by first | omega | (simp; done) | (simp; omega) | exact Below.size (by assumption) | exact Nat.le_trans (Below.size (by assumption)) (by simp)) _) | (refine Below.via ?_ (by assumption) (by first | omega | (simp; done) | (simp; omega) | exact Below.size (by assumption) | exact Nat.le_trans (Below.size (by assumption)) (by simp)))))
  rw [World.size_alloc] at bQ
  have hc := Lib.hid (collect_any w.heap.size (w.heap.size + 1) x y c1 c2 S Q w _ hel hS hQ N hN hN2 hB0 bS bQ)
  have hsh := Lib.hid hs
  have hw0 := hB0.size
  clear hel hS hQ hN bS bQ hs n1 n2
  go_enter Try.func81, Try.ntmps81
  go_wp2_with fail
  refine (passingValues_any _ _ _ _ _ _ _).mono ?_
  rintro e w4 ⟨rfl, rfl⟩
  go_wp2_with fail
  refine hc.out.mono ?_
  rintro e w5 ⟨v, T, rfl, hrow, hin, hM, hb5⟩
  obtain ⟨xv, cv, rfl, -, -⟩ := (OwR.of hrow).form
  have hB5 : Below w.heap.size w w5 := hB0.trans (hb5.mono hw0)
  have hbx := Boxed.new w5 131 (.slice xv T.length cv)
  have hb6 : Below w5.heap.size w5 (w5.alloc (.cells #[.slice xv T.length cv] 131)) := (Below.refl _ _).alloc (Nat.le_refl _) _
  have hTl : T.length ≤ 1048576 := by have h0 := psL_len S (eM Q) N; rw [← hM, eM_len] at h0; omega
  have hEI := Lib.hid (show EIn w5 xv T from ⟨hTl, ps_iin hsh.out hM hin, Rd.of_own hrow⟩)
  have hMh := Lib.hid hM
  clear hrow hin hM hc hb5 hw0
  go_wp2
  go_ret
  refine ⟨_, rfl, ⟨xv, cv, T, ?_, hEI.out.below ?_, hMh.out⟩, ?_⟩
  · first | exact hbx | (have h0 := (Boxed.new w5 131 (.slice none 0 0)).set (.slice xv T.length cv); exact h0)
  · exact (by repeat (first | exact Below.refl _ _ | assumption | refine Below.drew ?_ | refine below_drewN ?_ _ | refine Below.alloc' ?_ _ | (refine Below.setCell ?_ (by first | omega | (simp; done) | (simp; omega) | exact Below.size (by assumption) | exact Nat.le_trans (Below.size (by assumption)) (by simp)) _) | (refine Below.via' ?_ (by assumption)) | (refine Below.alloc ?_ (by first | omega | (simp; done) | (simp; omega) | exact Below.size (by assumption) | exact Nat.le_trans (Below.size (by assumption)) (by simp)) _) | (refine Below.via ?_ (by assumption) (by first | omega | (simp; done) | (simp; omega) | exact Below.size (by assumption) | exact Nat.le_trans (Below.size (by assumption)) (by simp)))))
  · exact (by repeat (first | exact Below.refl _ _ | assumption | refine Below.drew ?_ | refine below_drewN ?_ _ | refine Below.alloc' ?_ _ | (refine Below.setCell ?_ (by first | omega | (simp; done) | (simp; omega) | exact Below.size (by assumption) | exact Nat.le_trans (Below.size (by assumption)) (by simp)) _) | (refine Below.via' ?_ (by assumption)) | (refine Below.alloc ?_ (by first | omega | (simp; done) | (simp; omega) | exact Below.size (by assumption) | exact Nat.le_trans (Below.size (by assumption)) (by simp)) _) | (refine Below.via ?_ (by assumption) (by first | omega | (simp; done) | (simp; omega) | exact Below.size (by assumption) | exact Nat.le_trans (Below.size (by assumption)) (by simp)))))
set_option maxHeartbeats 2000000 in
theorem implied1_any (B : Nat) (z : Option Addr) (c : Nat) (S : List (ByteArray × Int)) (M : List (List Int)) (N : Nat) (E : List Int) (w : World) (hs : schB S = true) (hE : edB S E = true) (hI : ImIn S M N w B) (hz : IIn w z E) :
    Calls Try.prog 123 #[.agg #[.slice z E.length c], .pointer (some ⟨B, 0, none⟩)] w fun e w' => e = .returned (.bool (imV S (psN S M N) E)) ∧ Below w.heap.size w w' := by
  obtain ⟨x, cT, T, hb, hT, hM⟩ := hI
  have hq := Lib.hid (QB.new w z E.length c 28)
  have hb0 : Below w.heap.size w (w.alloc (.cells #[.slice z E.length c] 28)) := (by repeat (first | exact Below.refl _ _ | assumption | refine Below.drew ?_ | refine below_drewN ?_ _ | refine Below.alloc' ?_ _ | (refine Below.setCell ?_ (by first | omega | (simp; done) | (simp; omega) | exact Below.size (by assumption) | exact Nat.le_trans (Below.size (by assumption)) (by simp)) _) | (refine Below.via' ?_ (by assumption)) | (refine Below.alloc ?_ (by first | omega | (simp; done) | (simp; omega) | exact Below.size (by assumption) | exact Nat.le_trans (Below.size (by assumption)) (by simp)) _) | (refine Below.via ?_ (by assumption) (by first | omega | (simp; done) | (simp; omega) | exact Below.size (by assumption) | exact Nat.le_trans (Below.size (by assumption)) (by simp)))))
  have hbc := (boxed_below hb hb0).cell
  have hTh := Lib.hid (hT.below hb0)
  have hzh := Lib.hid (hz.below hb0)
  have hMh := Lib.hid hM
  have hsh := Lib.hid hs
  have hEh := Lib.hid hE
  have hTl := hT.1
  have hblt := hb.lt
  clear hb hT hz hM hs hE
  go_enter Try.func123, Try.ntmps123
  go_wp2
  go_loopw [8] (fun c2 wr => ∃ i : Nat, i ≤ T.length ∧ c2 = .int .i64 i ∧ Hid (∀ j, j < i → ∃ V, (eM T)[j]? = some V ∧ fsB E V = false) ∧ Below (w.alloc (.cells #[.slice z E.length c] 28)).heap.size (w.alloc (.cells #[.slice z E.length c] 28)) wr) (fun c2 _ => T.length - (intOf c2).toNat)
  case atStart => exact ⟨0, by omega, rfl, (fun j hj => absurd hj (by omega)), Below.refl _ _⟩
  case round =>
    obtain ⟨i, hi, rfl, hall, hBr⟩ := hrel
    by_cases hlt : i < T.length
    · obtain ⟨bl, off, q, rfl, hbl, hQq, hc0⟩ := (hTh.out.below hBr).2.2.ed hlt
      have hqi := Lib.hid ((hTh.out.2.1 q (List.mem_of_getElem? hQq)).below hBr)
      have hqe := Lib.hid (eM_at hQq)
      have hk : ∃ k : Nat, k ∈ psN S M N ∧ q.L = atL S (k : Int) := by
        have h1 := hqe.out
        rw [hMh.out] at h1
        unfold psL at h1
        obtain ⟨k, hk, e⟩ := List.mem_map.1 (List.mem_of_getElem? h1)
        exact ⟨k, hk, e.symm⟩
      obtain ⟨k, hkm, hkL⟩ := hk
      have hfi := Lib.hid (show Fine E q.L by rw [hkL]; exact fine_of hsh.out hEh.out (at_fitE hsh.out (by omega)))
      have hkmh := Lib.hid hkm
      have hkLh := Lib.hid hkL
      have hlt' : (i : Int) < (T.length : Int) := by omega
      obtain ⟨ka, kb, kc⟩ := hq.out.below hBr
      clear hQq hkm hkL
      cases hh : fsB E q.L
      · have hhh := Lib.hid hh
        go_wp2_with fail
        refine (failsEdit_any _ _ _ _ E q.L _ hfi.out (hzh.out.below hBr) hqi.out).mono ?_
        rintro e w3 ⟨rfl, hb3⟩
        rw [hh]
        go_wp2
        go_roundw
        case rel =>
          refine ⟨i + 1, by omega, by go_num, fun j hj => ?_, (by repeat (first | exact Below.refl _ _ | assumption | refine Below.drew ?_ | refine below_drewN ?_ _ | refine Below.alloc' ?_ _ | (refine Below.setCell ?_ (by first | omega | (simp; done) | (simp; omega) | exact Below.size (by assumption) | exact Nat.le_trans (Below.size (by assumption)) (by simp)) _) | (refine Below.via' ?_ (by assumption)) | (refine Below.alloc ?_ (by first | omega | (simp; done) | (simp; omega) | exact Below.size (by assumption) | exact Nat.le_trans (Below.size (by assumption)) (by simp)) _) | (refine Below.via ?_ (by assumption) (by first | omega | (simp; done) | (simp; omega) | exact Below.size (by assumption) | exact Nat.le_trans (Below.size (by assumption)) (by simp)))))⟩
          rcases Nat.lt_or_ge j i with hj2 | hj2
          · exact hall.out j hj2
          · obtain rfl : j = i := by omega
            exact ⟨_, hqe.out, hhh.out⟩
        case measure => simp [intOf]; omega
      · have hv := Lib.hid (imV_bad (S := S) (E := E) hkmh.out (by rw [← hkLh.out]; exact hh))
        go_wp2_with fail
        refine (failsEdit_any _ _ _ _ E q.L _ hfi.out (hzh.out.below hBr) hqi.out).mono ?_
        rintro e w3 ⟨rfl, hb3⟩
        rw [hh]
        go_wp2
        go_ret
        exact ⟨ret_bool hv.out.symm, (by repeat (first | exact Below.refl _ _ | assumption | refine Below.drew ?_ | refine below_drewN ?_ _ | refine Below.alloc' ?_ _ | (refine Below.setCell ?_ (by first | omega | (simp; done) | (simp; omega) | exact Below.size (by assumption) | exact Nat.le_trans (Below.size (by assumption)) (by simp)) _) | (refine Below.via' ?_ (by assumption)) | (refine Below.alloc ?_ (by first | omega | (simp; done) | (simp; omega) | exact Below.size (by assumption) | exact Nat.le_trans (Below.size (by assumption)) (by simp)) _) | (refine Below.via ?_ (by assumption) (by first | omega | (simp; done) | (simp; omega) | exact Below.size (by assumption) | exact Nat.le_trans (Below.size (by assumption)) (by simp)))))⟩
    · have hij : i = T.length := by omega
      subst hij
      have hv : Hid (imV S (psN S M N) E = true) := by
        refine imV_all fun k hk => ?_
        have h1 : atL S (k : Int) ∈ psL S M N := List.mem_map.2 ⟨k, hk, rfl⟩
        rw [← hMh.out] at h1
        obtain ⟨j, hj, e⟩ := List.getElem_of_mem h1
        obtain ⟨V, h2, h3⟩ := hall.out j (by rw [eM_len] at hj; exact hj)
        rw [List.getElem?_eq_getElem hj, e] at h2
        cases h2
        exact h3
      clear hall
      go_wp2
      go_ret
      exact ⟨ret_bool hv.out.symm, (by repeat (first | exact Below.refl _ _ | assumption | refine Below.drew ?_ | refine below_drewN ?_ _ | refine Below.alloc' ?_ _ | (refine Below.setCell ?_ (by first | omega | (simp; done) | (simp; omega) | exact Below.size (by assumption) | exact Nat.le_trans (Below.size (by assumption)) (by simp)) _) | (refine Below.via' ?_ (by assumption)) | (refine Below.alloc ?_ (by first | omega | (simp; done) | (simp; omega) | exact Below.size (by assumption) | exact Nat.le_trans (Below.size (by assumption)) (by simp)) _) | (refine Below.via ?_ (by assumption) (by first | omega | (simp; done) | (simp; omega) | exact Below.size (by assumption) | exact Nat.le_trans (Below.size (by assumption)) (by simp)))))⟩
set_option maxHeartbeats 4000000 in
theorem iIM_x (x y z : Option Addr) (c1 c2 c3 : Nat) (S : List (ByteArray × Int)) (Q : List PR) (E : List Int) (w : World) (hS : SIn w x c1 S) (hQ : EIn w y Q) (hE : IIn w z E) :
    Calls Try.prog 29 #[.slice x S.length c1, .slice y Q.length c2, .agg #[.slice z E.length c3]] w fun e w' => e = .returned (.tuple #[.bool (imB S (eM Q) E), .bool (imG S (eM Q) E)]) ∧ Below w.heap.size w w' := by
  have hSh := Lib.hid hS
  have hQh := Lib.hid hQ
  have hEh := Lib.hid hE
  have hm := hS.1
  clear hS hQ hE
  have hq := Lib.hid (QB.new w z E.length c3 28)
  go_enter Try.func29, Try.ntmps29
  go_wp2_with fail
  refine (isSmall_any _ _ _ _ (hSh.out.below (by exact (by repeat (first | exact Below.refl _ _ | assumption | refine Below.drew ?_ | refine below_drewN ?_ _ | refine Below.alloc' ?_ _ | (refine Below.setCell ?_ (by first | omega | (simp; done) | (simp; omega) | exact Below.size (by assumption) | exact Nat.le_trans (Below.size (by assumption)) (by simp)) _) | (refine Below.via' ?_ (by assumption)) | (refine Below.alloc ?_ (by first | omega | (simp; done) | (simp; omega) | exact Below.size (by assumption) | exact Nat.le_trans (Below.size (by assumption)) (by simp)) _) | (refine Below.via ?_ (by assumption) (by first | omega | (simp; done) | (simp; omega) | exact Below.size (by assumption) | exact Nat.le_trans (Below.size (by assumption)) (by simp)))))))).mono ?_
  rintro e w1 ⟨rfl, hb1⟩
  have hq1 := Lib.hid (hq.out.below hb1)
  obtain ⟨ka, kb, kc⟩ := hq1.out
  cases hs : smS S
  · have hv := Lib.hid (imG_no1 (E := E) (sm_no3 (M := eM Q) hs))
    go_wp2
    go_ret2
    exact ⟨ret_bbE hv.out.2.symm hv.out.1.symm, (by repeat (first | exact Below.refl _ _ | assumption | refine Below.drew ?_ | refine below_drewN ?_ _ | refine Below.alloc' ?_ _ | (refine Below.setCell ?_ (by first | omega | (simp; done) | (simp; omega) | exact Below.size (by assumption) | exact Nat.le_trans (Below.size (by assumption)) (by simp)) _) | (refine Below.via' ?_ (by assumption)) | (refine Below.alloc ?_ (by first | omega | (simp; done) | (simp; omega) | exact Below.size (by assumption) | exact Nat.le_trans (Below.size (by assumption)) (by simp)) _) | (refine Below.via ?_ (by assumption) (by first | omega | (simp; done) | (simp; omega) | exact Below.size (by assumption) | exact Nat.le_trans (Below.size (by assumption)) (by simp)))))⟩
  have hssh := Lib.hid hs
  have hsh := Lib.hid (smS_get hs).1
  clear hs
  go_wp2_with fail
  refine (areEditsFor_any _ _ _ _ S Q _ hsh.out hm (hSh.out.rd.below (by exact (by repeat (first | exact Below.refl _ _ | assumption | refine Below.drew ?_ | refine below_drewN ?_ _ | refine Below.alloc' ?_ _ | (refine Below.setCell ?_ (by first | omega | (simp; done) | (simp; omega) | exact Below.size (by assumption) | exact Nat.le_trans (Below.size (by assumption)) (by simp)) _) | (refine Below.via' ?_ (by assumption)) | (refine Below.alloc ?_ (by first | omega | (simp; done) | (simp; omega) | exact Below.size (by assumption) | exact Nat.le_trans (Below.size (by assumption)) (by simp)) _) | (refine Below.via ?_ (by assumption) (by first | omega | (simp; done) | (simp; omega) | exact Below.size (by assumption) | exact Nat.le_trans (Below.size (by assumption)) (by simp))))))) (hQh.out.below (by exact (by repeat (first | exact Below.refl _ _ | assumption | refine Below.drew ?_ | refine below_drewN ?_ _ | refine Below.alloc' ?_ _ | (refine Below.setCell ?_ (by first | omega | (simp; done) | (simp; omega) | exact Below.size (by assumption) | exact Nat.le_trans (Below.size (by assumption)) (by simp)) _) | (refine Below.via' ?_ (by assumption)) | (refine Below.alloc ?_ (by first | omega | (simp; done) | (simp; omega) | exact Below.size (by assumption) | exact Nat.le_trans (Below.size (by assumption)) (by simp)) _) | (refine Below.via ?_ (by assumption) (by first | omega | (simp; done) | (simp; omega) | exact Below.size (by assumption) | exact Nat.le_trans (Below.size (by assumption)) (by simp)))))))).mono ?_
  rintro e w2 ⟨rfl, hb2⟩
  have hq2 := Lib.hid (hq1.out.below hb2)
  obtain ⟨ka2, kb2, kc2⟩ := hq2.out
  cases he : elB S (eM Q)
  · have hv := Lib.hid (imG_no1 (E := E) (sm_no1 he))
    go_wp2
    go_ret2
    exact ⟨ret_bbE hv.out.2.symm hv.out.1.symm, (by repeat (first | exact Below.refl _ _ | assumption | refine Below.drew ?_ | refine below_drewN ?_ _ | refine Below.alloc' ?_ _ | (refine Below.setCell ?_ (by first | omega | (simp; done) | (simp; omega) | exact Below.size (by assumption) | exact Nat.le_trans (Below.size (by assumption)) (by simp)) _) | (refine Below.via' ?_ (by assumption)) | (refine Below.alloc ?_ (by first | omega | (simp; done) | (simp; omega) | exact Below.size (by assumption) | exact Nat.le_trans (Below.size (by assumption)) (by simp)) _) | (refine Below.via ?_ (by assumption) (by first | omega | (simp; done) | (simp; omega) | exact Below.size (by assumption) | exact Nat.le_trans (Below.size (by assumption)) (by simp)))))⟩
  have heh := Lib.hid he
  have hsmh := Lib.hid (sm_both hssh.out he)
  clear he
  go_wp2_with fail
  refine (isEditFor_any _ _ _ _ S E _ hsh.out hm (hSh.out.rd.below (by exact (by repeat (first | exact Below.refl _ _ | assumption | refine Below.drew ?_ | refine below_drewN ?_ _ | refine Below.alloc' ?_ _ | (refine Below.setCell ?_ (by first | omega | (simp; done) | (simp; omega) | exact Below.size (by assumption) | exact Nat.le_trans (Below.size (by assumption)) (by simp)) _) | (refine Below.via' ?_ (by assumption)) | (refine Below.alloc ?_ (by first | omega | (simp; done) | (simp; omega) | exact Below.size (by assumption) | exact Nat.le_trans (Below.size (by assumption)) (by simp)) _) | (refine Below.via ?_ (by assumption) (by first | omega | (simp; done) | (simp; omega) | exact Below.size (by assumption) | exact Nat.le_trans (Below.size (by assumption)) (by simp))))))) (hEh.out.below (by exact (by repeat (first | exact Below.refl _ _ | assumption | refine Below.drew ?_ | refine below_drewN ?_ _ | refine Below.alloc' ?_ _ | (refine Below.setCell ?_ (by first | omega | (simp; done) | (simp; omega) | exact Below.size (by assumption) | exact Nat.le_trans (Below.size (by assumption)) (by simp)) _) | (refine Below.via' ?_ (by assumption)) | (refine Below.alloc ?_ (by first | omega | (simp; done) | (simp; omega) | exact Below.size (by assumption) | exact Nat.le_trans (Below.size (by assumption)) (by simp)) _) | (refine Below.via ?_ (by assumption) (by first | omega | (simp; done) | (simp; omega) | exact Below.size (by assumption) | exact Nat.le_trans (Below.size (by assumption)) (by simp)))))))).mono ?_
  rintro e w3 ⟨rfl, hb3⟩
  have hq3 := Lib.hid (hq2.out.below hb3)
  obtain ⟨ka3, kb3, kc3⟩ := hq3.out
  cases hf : edB S E
  · have hv := Lib.hid (imG_no2 (M := eM Q) hf)
    go_wp2
    go_ret2
    exact ⟨ret_bbE hv.out.2.symm hv.out.1.symm, (by repeat (first | exact Below.refl _ _ | assumption | refine Below.drew ?_ | refine below_drewN ?_ _ | refine Below.alloc' ?_ _ | (refine Below.setCell ?_ (by first | omega | (simp; done) | (simp; omega) | exact Below.size (by assumption) | exact Nat.le_trans (Below.size (by assumption)) (by simp)) _) | (refine Below.via' ?_ (by assumption)) | (refine Below.alloc ?_ (by first | omega | (simp; done) | (simp; omega) | exact Below.size (by assumption) | exact Nat.le_trans (Below.size (by assumption)) (by simp)) _) | (refine Below.via ?_ (by assumption) (by first | omega | (simp; done) | (simp; omega) | exact Below.size (by assumption) | exact Nat.le_trans (Below.size (by assumption)) (by simp)))))⟩
  have hfh := Lib.hid hf
  clear hf
  have hv := Lib.hid (imG_yes hsmh.out hfh.out)
  obtain ⟨n1, n2⟩ := cn_all hsh.out
  have hNh : Hid (cnZ S = (((cnZ S).toNat : Nat) : Int)) := by unfold Hid; omega
  have hB3 : Below w.heap.size w w3 := (by repeat (first | exact Below.refl _ _ | assumption | refine Below.drew ?_ | refine below_drewN ?_ _ | refine Below.alloc' ?_ _ | (refine Below.setCell ?_ (by first | omega | (simp; done) | (simp; omega) | exact Below.size (by assumption) | exact Nat.le_trans (Below.size (by assumption)) (by simp)) _) | (refine Below.via' ?_ (by assumption)) | (refine Below.alloc ?_ (by first | omega | (simp; done) | (simp; omega) | exact Below.size (by assumption) | exact Nat.le_trans (Below.size (by assumption)) (by simp)) _) | (refine Below.via ?_ (by assumption) (by first | omega | (simp; done) | (simp; omega) | exact Below.size (by assumption) | exact Nat.le_trans (Below.size (by assumption)) (by simp)))))
  clear n1 n2 ka kb kc ka2 kb2 kc2
  go_wp2_with fail
  go_region_held3 (fun w' => Below (w3).heap.size (w3) w' ∧ (∀ b o, b < (w3).heap.size → w'.cell? ⟨b, o, none⟩ = (w3).cell? ⟨b, o, none⟩)) (first | exact keep_of (Below.refl _ _) | ((try go_split_ands); exact keep_of (by repeat (first | exact Below.refl _ _ | assumption | refine Below.drew ?_ | refine below_drewN ?_ _ | refine Below.alloc' ?_ _ | (refine Below.setCell ?_ (by first | omega | (simp; done) | (simp; omega) | exact Below.size (by assumption) | exact Nat.le_trans (Below.size (by assumption)) (by simp)) _) | (refine Below.via' ?_ (by assumption)) | (refine Below.alloc ?_ (by first | omega | (simp; done) | (simp; omega) | exact Below.size (by assumption) | exact Nat.le_trans (Below.size (by assumption)) (by simp)) _) | (refine Below.via ?_ (by assumption) (by first | omega | (simp; done) | (simp; omega) | exact Below.size (by assumption) | exact Nat.le_trans (Below.size (by assumption)) (by simp))))))) (first | (go_at_call 81; refine (impliedBy_any _ _ _ _ S Q _ heh.out (hSh.out.below (by exact (by repeat (first | exact Below.refl _ _ | assumption | refine Below.drew ?_ | refine below_drewN ?_ _ | refine Below.alloc' ?_ _ | (refine Below.setCell ?_ (by first | omega | (simp; done) | (simp; omega) | exact Below.size (by assumption) | exact Nat.le_trans (Below.size (by assumption)) (by simp)) _) | (refine Below.via' ?_ (by assumption)) | (refine Below.alloc ?_ (by first | omega | (simp; done) | (simp; omega) | exact Below.size (by assumption) | exact Nat.le_trans (Below.size (by assumption)) (by simp)) _) | (refine Below.via ?_ (by assumption) (by first | omega | (simp; done) | (simp; omega) | exact Below.size (by assumption) | exact Nat.le_trans (Below.size (by assumption)) (by simp))))))) (hQh.out.below (by exact (by repeat (first | exact Below.refl _ _ | assumption | refine Below.drew ?_ | refine below_drewN ?_ _ | refine Below.alloc' ?_ _ | (refine Below.setCell ?_ (by first | omega | (simp; done) | (simp; omega) | exact Below.size (by assumption) | exact Nat.le_trans (Below.size (by assumption)) (by simp)) _) | (refine Below.via' ?_ (by assumption)) | (refine Below.alloc ?_ (by first | omega | (simp; done) | (simp; omega) | exact Below.size (by assumption) | exact Nat.le_trans (Below.size (by assumption)) (by simp)) _) | (refine Below.via ?_ (by assumption) (by first | omega | (simp; done) | (simp; omega) | exact Below.size (by assumption) | exact Nat.le_trans (Below.size (by assumption)) (by simp))))))) _ hNh.out).mono ?_; rintro e w4 ⟨B4, rfl, hI4, hb4⟩; (replace hI4 := Lib.hid hI4)) | (go_at_call 123; refine (implied1_any _ _ _ S (eM Q) _ E _ hsh.out hfh.out (hI4.out.below (by exact (by repeat (first | exact Below.refl _ _ | assumption | refine Below.drew ?_ | refine below_drewN ?_ _ | refine Below.alloc' ?_ _ | (refine Below.setCell ?_ (by first | omega | (simp; done) | (simp; omega) | exact Below.size (by assumption) | exact Nat.le_trans (Below.size (by assumption)) (by simp)) _) | (refine Below.via' ?_ (by assumption)) | (refine Below.alloc ?_ (by first | omega | (simp; done) | (simp; omega) | exact Below.size (by assumption) | exact Nat.le_trans (Below.size (by assumption)) (by simp)) _) | (refine Below.via ?_ (by assumption) (by first | omega | (simp; done) | (simp; omega) | exact Below.size (by assumption) | exact Nat.le_trans (Below.size (by assumption)) (by simp))))))) (hEh.out.below (by exact (by repeat (first | exact Below.refl _ _ | assumption | refine Below.drew ?_ | refine below_drewN ?_ _ | refine Below.alloc' ?_ _ | (refine Below.setCell ?_ (by first | omega | (simp; done) | (simp; omega) | exact Below.size (by assumption) | exact Nat.le_trans (Below.size (by assumption)) (by simp)) _) | (refine Below.via' ?_ (by assumption)) | (refine Below.alloc ?_ (by first | omega | (simp; done) | (simp; omega) | exact Below.size (by assumption) | exact Nat.le_trans (Below.size (by assumption)) (by simp)) _) | (refine Below.via ?_ (by assumption) (by first | omega | (simp; done) | (simp; omega) | exact Below.size (by assumption) | exact Nat.le_trans (Below.size (by assumption)) (by simp)))))))).mono ?_; rintro e w5 ⟨rfl, hb5⟩)); rename_i hH; obtain ⟨hb5, hcl5⟩ := hH; have hz5 := hb5.size; (try simp at hz5); (try (have hly5 := Nat.lt_of_succ_le hz5)); (try (have hlx5 := Nat.lt_of_succ_lt hly5)); (try (have hlw5 := Nat.lt_of_succ_lt hlx5)); (try (have hle5 := Nat.le_of_lt hly5)); (try (have hya5 : w.heap.size < w5.heap.size := by omega)); (try (have hyb5 : w.heap.size + 1 < w5.heap.size := by omega)); (try (have hyc5 : w.heap.size + 1 + 1 < w5.heap.size := by omega)); (try (have hyd5 : wa.heap.size < w5.heap.size := by omega))
  go_wp2
  go_ret2
  exact ⟨ret_bbE hv.out.2.symm hv.out.1.symm, (by repeat (first | exact Below.refl _ _ | assumption | refine Below.drew ?_ | refine below_drewN ?_ _ | refine Below.alloc' ?_ _ | (refine Below.setCell ?_ (by first | omega | (simp; done) | (simp; omega) | exact Below.size (by assumption) | exact Nat.le_trans (Below.size (by assumption)) (by simp)) _) | (refine Below.via' ?_ (by assumption)) | (refine Below.alloc ?_ (by first | omega | (simp; done) | (simp; omega) | exact Below.size (by assumption) | exact Nat.le_trans (Below.size (by assumption)) (by simp)) _) | (refine Below.via ?_ (by assumption) (by first | omega | (simp; done) | (simp; omega) | exact Below.size (by assumption) | exact Nat.le_trans (Below.size (by assumption)) (by simp)))))⟩
theorem iIM_m (x y z : Option Addr) (c1 c2 c3 : Nat) (S : List (ByteArray × Int)) (Q : List PR) (E : List Int) (w : World) (hS : SIn w x c1 S) (hQ : EIn w y Q) (hE : IIn w z E) (M : List (List Int)) (hM : eM Q = M) :
    Calls Try.prog 29 #[.slice x S.length c1, .slice y Q.length c2, .agg #[.slice z E.length c3]] w fun e w' => e = .returned (.tuple #[.bool (imB S M E), .bool (imG S M E)]) ∧ Below w.heap.size w w' := by subst hM; exact iIM_x x y z c1 c2 c3 S Q E w hS hQ hE

/-- Which lists of values fail, as the model marks them. -/
def bdC (S : List (ByteArray × Int)) (M : List (List Int)) (N : Nat) : List Value := (List.range N).map fun k : Nat => .bool (faB M (atL S (k : Int)))
theorem bdC_len (S : List (ByteArray × Int)) (M : List (List Int)) (N : Nat) : (bdC S M N).length = N := by unfold bdC; simp
theorem bdC_at {S : List (ByteArray × Int)} {M : List (List Int)} {N i : Nat} (h : i < N) : (bdC S M N)[i]? = some (.bool (faB M (atL S (i : Int)))) := by unfold bdC; rw [List.getElem?_map, List.getElem?_range h]; rfl
theorem Try.infoBool : (Try.prog.info? 4).map (fun i => (i.zero, i.size, i.bytes)) = some (some (.bool false), 1, 1) := by kernel_rfl
def BdPost (S : List (ByteArray × Int)) (M : List (List Int)) (N : Nat) (w : World) (e : Ending) (w' : World) : Prop :=
  ∃ g : Nat, e = .returned (.slice (some ⟨g, 0, none⟩) N N) ∧ w'.ownsRow w.heap.size 4 1 (.slice (some ⟨g, 0, none⟩) N N) N (bdC S M N) ∧ Below w.heap.size w w'
set_option maxHeartbeats 4000000 in
theorem eBad_any (x y : Option Addr) (c1 c2 : Nat) (S : List (ByteArray × Int)) (Q : List PR) (w : World) (hel : elB S (eM Q) = true) (hS : SIn w x c1 S) (hQ : EIn w y Q) (N : Nat) (hN : cnZ S = (N : Int)) :
    Calls Try.prog 79 #[.slice x S.length c1, .slice y Q.length c2] w (BdPost S (eM Q) N w) := by
  obtain ⟨i0, hii, hz0, hz1, hz2⟩ := info_parts Try.infoBool
  have hSh := Lib.hid hS
  have hQh := Lib.hid hQ
  have hm := hS.1
  obtain ⟨g1, g2, g3⟩ := el_get hel
  have hsh := Lib.hid g1
  have hedh := Lib.hid g3
  have hq40 : Q.length ≤ 40 := by rw [eM_len] at g2; exact g2
  obtain ⟨n1, n2⟩ := cn_all g1
  have hN2 : N ≤ 262144 := by omega
  have hNh := Lib.hid hN
  clear hS hQ hel g1 g2 g3 n1 n2 hN
  go_enter Try.func79, Try.ntmps79
  go_wp2_with fail
  refine (sCount_any _ _ S _ hsh.out hm (hSh.out.rd.below (by exact (by repeat (first | exact Below.refl _ _ | assumption | refine Below.drew ?_ | refine below_drewN ?_ _ | refine Below.alloc' ?_ _ | (refine Below.setCell ?_ (by first | omega | (simp; done) | (simp; omega) | exact Below.size (by assumption) | exact Nat.le_trans (Below.size (by assumption)) (by simp)) _) | (refine Below.via' ?_ (by assumption)) | (refine Below.alloc ?_ (by first | omega | (simp; done) | (simp; omega) | exact Below.size (by assumption) | exact Nat.le_trans (Below.size (by assumption)) (by simp)) _) | (refine Below.via ?_ (by assumption) (by first | omega | (simp; done) | (simp; omega) | exact Below.size (by assumption) | exact Nat.le_trans (Below.size (by assumption)) (by simp)))))))).mono ?_
  rintro e w1 ⟨rfl, hb1⟩
  rw [hNh.out]
  have hbb : i0.bytes * N ≤ 281474976710656 := by rw [hz2]; omega
  have hmm : N ≤ maxLen := by unfold maxLen; omega
  have hs1 := hb1.size
  go_wp2_with (at_make; go_loud (refine wpList_make_full _ rfl _ _ 93 rfl w1.heap.size 4 i0 (.bool false) 1 Try.underlying93 hii hz0 hz1 .i64 .i64 _ _ N rfl rfl rfl rfl hbb hmm (Nat.le_refl _) (fun w4 hown hgrow => ?_)))
  have hb4 : Below w1.heap.size w1 w4 := (Below.refl _ _).grown hgrow (Nat.le_refl _) (by intro k hk; cases hk)
  clear hgrow hii hz0 hz1 hz2 hbb hmm
  have B4 : Below w.heap.size w w4 := (by repeat (first | exact Below.refl _ _ | assumption | refine Below.drew ?_ | refine below_drewN ?_ _ | refine Below.alloc' ?_ _ | (refine Below.setCell ?_ (by first | omega | (simp; done) | (simp; omega) | exact Below.size (by assumption) | exact Nat.le_trans (Below.size (by assumption)) (by simp)) _) | (refine Below.via' ?_ (by assumption)) | (refine Below.alloc ?_ (by first | omega | (simp; done) | (simp; omega) | exact Below.size (by assumption) | exact Nat.le_trans (Below.size (by assumption)) (by simp)) _) | (refine Below.via ?_ (by assumption) (by first | omega | (simp; done) | (simp; omega) | exact Below.size (by assumption) | exact Nat.le_trans (Below.size (by assumption)) (by simp)))))
  go_loopw [12] (fun c wr => ∃ (i : Nat) (xs : List Value), i ≤ N ∧ c = .int .i64 i ∧ wr.ownsRow w1.heap.size 4 1 (.slice (some ⟨w1.heap.size, 0, none⟩) N N) N xs ∧ Hid (∀ j, j < i → xs[j]? = (bdC S (eM Q) N)[j]?) ∧ Below w.heap.size w wr) (fun c _ => N - (intOf c).toNat)
  case atStart => exact ⟨0, _, by omega, rfl, hown, (fun j hj => absurd hj (by omega)), B4⟩
  case round =>
    clear hown B4 hb4
    obtain ⟨i, xs, hi, rfl, hown, hdone, hBr⟩ := hrel
    have hownh := Lib.hid hown
    have hxl := Lib.hid (show xs.length = N by rw [hown.1]; omega)
    have hk4 := (own_lt hown).2
    clear hown
    by_cases hlt : i < N
    · have hlt' : (i : Int) < (N : Int) := by omega
      have hi0 : (0 : Int) ≤ (i : Int) := by omega
      go_wp2_with fail
      refine (sAt_any _ _ S i _ hsh.out (by omega) (by omega) hm (hSh.out.rd.below hBr)).mono ?_
      rintro e w3 ⟨u3, rfl, ho3, hb3⟩
      obtain ⟨x3, n3, rfl, -, -⟩ := (OwR.of ho3).form
      have hin := Lib.hid (atL_iin hsh.out (show (0 : Int) ≤ (i : Int) by omega) (Rd.of_own ho3))
      have hB3 : Below w.heap.size w w3 := (by repeat (first | exact Below.refl _ _ | assumption | refine Below.drew ?_ | refine below_drewN ?_ _ | refine Below.alloc' ?_ _ | (refine Below.setCell ?_ (by first | omega | (simp; done) | (simp; omega) | exact Below.size (by assumption) | exact Nat.le_trans (Below.size (by assumption)) (by simp)) _) | (refine Below.via' ?_ (by assumption)) | (refine Below.alloc ?_ (by first | omega | (simp; done) | (simp; omega) | exact Below.size (by assumption) | exact Nat.le_trans (Below.size (by assumption)) (by simp)) _) | (refine Below.via ?_ (by assumption) (by first | omega | (simp; done) | (simp; omega) | exact Below.size (by assumption) | exact Nat.le_trans (Below.size (by assumption)) (by simp)))))
      have own3 := Lib.hid (own_below hownh.out hb3)
      clear ho3
      go_wp2_with fail
      refine (eFailed_any _ _ _ _ Q (atL S i) _ hq40 (fun E hE => fine_of hsh.out (hedh.out E hE) (at_fitE hsh.out (by omega))) (hQh.out.below hB3) hin.out).mono ?_
      rintro e w5 ⟨u5, rfl, ho5, hb5⟩
      obtain ⟨x5, n5, rfl, -, -⟩ := (OwR.of ho5).form
      have own5 := Lib.hid (own_below own3.out hb5)
      have hB5 : Below w.heap.size w w5 := (by repeat (first | exact Below.refl _ _ | assumption | refine Below.drew ?_ | refine below_drewN ?_ _ | refine Below.alloc' ?_ _ | (refine Below.setCell ?_ (by first | omega | (simp; done) | (simp; omega) | exact Below.size (by assumption) | exact Nat.le_trans (Below.size (by assumption)) (by simp)) _) | (refine Below.via' ?_ (by assumption)) | (refine Below.alloc ?_ (by first | omega | (simp; done) | (simp; omega) | exact Below.size (by assumption) | exact Nat.le_trans (Below.size (by assumption)) (by simp)) _) | (refine Below.via ?_ (by assumption) (by first | omega | (simp; done) | (simp; omega) | exact Below.size (by assumption) | exact Nat.le_trans (Below.size (by assumption)) (by simp)))))
      clear ho5
      obtain ⟨u0, hu0, k0⟩ := own_cell own5.out (j := i) (by omega)
      have k2 := own5.out.frozenAt i
      have hst := Lib.hid (own5.out.stored i (.bool (decide (0 < (feL (eM Q) (atL S i)).length))))
      have hd : Hid (decide (0 < (feL (eM Q) (atL S i)).length) = faB (eM Q) (atL S i)) := by
        unfold Hid
        cases hfa : faB (eM Q) (atL S i)
        · rw [decide_eq_false_iff_not]
          have := fe_none.2 hfa
          omega
        · rw [decide_eq_true_eq]
          have h0 : ¬ (feL (eM Q) (atL S i)).length = 0 := fun h => by have := fe_none.1 h; rw [hfa] at this; cases this
          omega
      replace hu0 := Lib.hid hu0
      by_cases hp : (0 : Int) < ((feL (eM Q) (atL S i)).length : Int)
      · go_wp2
        go_roundw
        case rel =>
          refine ⟨i + 1, _, by omega, by go_num, hst.out.1, fun j hj => ?_, (by repeat (first | exact Below.refl _ _ | assumption | refine Below.drew ?_ | refine below_drewN ?_ _ | refine Below.alloc' ?_ _ | (refine Below.setCell ?_ (by first | omega | (simp; done) | (simp; omega) | exact Below.size (by assumption) | exact Nat.le_trans (Below.size (by assumption)) (by simp)) _) | (refine Below.via' ?_ (by assumption)) | (refine Below.alloc ?_ (by first | omega | (simp; done) | (simp; omega) | exact Below.size (by assumption) | exact Nat.le_trans (Below.size (by assumption)) (by simp)) _) | (refine Below.via ?_ (by assumption) (by first | omega | (simp; done) | (simp; omega) | exact Below.size (by assumption) | exact Nat.le_trans (Below.size (by assumption)) (by simp)))))⟩
          rw [List.getElem?_set]
          by_cases hji : i = j
          · subst hji
            rw [if_pos rfl, if_pos (by rw [hxl.out]; omega), bdC_at (by omega), ← hd.out]
          · rw [if_neg hji]
            exact hdone.out j (by omega)
        case measure => simp [intOf]; omega
      · go_wp2
        go_roundw
        case rel =>
          refine ⟨i + 1, _, by omega, by go_num, hst.out.1, fun j hj => ?_, (by repeat (first | exact Below.refl _ _ | assumption | refine Below.drew ?_ | refine below_drewN ?_ _ | refine Below.alloc' ?_ _ | (refine Below.setCell ?_ (by first | omega | (simp; done) | (simp; omega) | exact Below.size (by assumption) | exact Nat.le_trans (Below.size (by assumption)) (by simp)) _) | (refine Below.via' ?_ (by assumption)) | (refine Below.alloc ?_ (by first | omega | (simp; done) | (simp; omega) | exact Below.size (by assumption) | exact Nat.le_trans (Below.size (by assumption)) (by simp)) _) | (refine Below.via ?_ (by assumption) (by first | omega | (simp; done) | (simp; omega) | exact Below.size (by assumption) | exact Nat.le_trans (Below.size (by assumption)) (by simp)))))⟩
          rw [List.getElem?_set]
          by_cases hji : i = j
          · subst hji
            rw [if_pos rfl, if_pos (by rw [hxl.out]; omega), bdC_at (by omega), ← hd.out]
          · rw [if_neg hji]
            exact hdone.out j (by omega)
        case measure => simp [intOf]; omega
    · have hij : i = N := by omega
      subst hij
      have hxs : Hid (xs = bdC S (eM Q) i) := by
        apply List.ext_getElem?
        intro j
        rcases Nat.lt_or_ge j i with hj | hj
        · exact hdone.out j hj
        · rw [List.getElem?_eq_none (by rw [hxl.out]; exact hj), List.getElem?_eq_none (by rw [bdC_len]; exact hj)]
      clear hdone
      go_wp2
      go_ret
      refine ⟨_, rfl, ?_, hBr⟩
      rw [← hxs.out]
      exact own_more hownh.out (by omega)
set_option maxHeartbeats 4000000 in
theorem eCovered_any (x y z : Option Addr) (c1 c2 c3 : Nat) (S : List (ByteArray × Int)) (M : List (List Int)) (E : List Int) (N : Nat) (w : World) (hs : schB S = true) (hEd : edB S E = true) (hS : SIn w x c1 S) (hN : cnZ S = (N : Int)) (hy : Rd w y (bdC S M N)) (hE : IIn w z E) :
    Calls Try.prog 78 #[.slice x S.length c1, .slice y N c2, .agg #[.slice z E.length c3]] w fun e w' => e = .returned (.bool (imV S (psN S M N) E)) ∧ Below w.heap.size w w' := by
  have hq := Lib.hid (QB.new w z E.length c3 28)
  have hb0 : Below w.heap.size w (w.alloc (.cells #[.slice z E.length c3] 28)) := (by repeat (first | exact Below.refl _ _ | assumption | refine Below.drew ?_ | refine below_drewN ?_ _ | refine Below.alloc' ?_ _ | (refine Below.setCell ?_ (by first | omega | (simp; done) | (simp; omega) | exact Below.size (by assumption) | exact Nat.le_trans (Below.size (by assumption)) (by simp)) _) | (refine Below.via' ?_ (by assumption)) | (refine Below.alloc ?_ (by first | omega | (simp; done) | (simp; omega) | exact Below.size (by assumption) | exact Nat.le_trans (Below.size (by assumption)) (by simp)) _) | (refine Below.via ?_ (by assumption) (by first | omega | (simp; done) | (simp; omega) | exact Below.size (by assumption) | exact Nat.le_trans (Below.size (by assumption)) (by simp)))))
  have hSh := Lib.hid (hS.below hb0)
  have hyh := Lib.hid (hy.below hb0)
  have hEh := Lib.hid (hE.below hb0)
  have hm := hS.1
  have hsh := Lib.hid hs
  have hedh := Lib.hid hEd
  obtain ⟨n1, n2⟩ := cn_all hs
  have hN2 : N ≤ 262144 := by omega
  have hNh := Lib.hid hN
  clear hS hy hE hs hEd n1 n2 hN
  go_enter Try.func78, Try.ntmps78
  go_wp2
  go_loopw [11] (fun c wr => ∃ i : Nat, i ≤ N ∧ c = .int .i64 i ∧ Hid (∀ k, k < i → faB M (atL S (k : Int)) = false → fsB E (atL S (k : Int)) = false) ∧ Below (w.alloc (.cells #[.slice z E.length c3] 28)).heap.size (w.alloc (.cells #[.slice z E.length c3] 28)) wr) (fun c _ => N - (intOf c).toNat)
  case atStart => exact ⟨0, by omega, rfl, (fun j hj => absurd hj (by omega)), Below.refl _ _⟩
  case round =>
    obtain ⟨i, hi, rfl, hall, hBr⟩ := hrel
    by_cases hlt : i < N
    · have hlt' : (i : Int) < (N : Int) := by omega
      have hrd : ∃ b off, y = some ⟨b, off, none⟩ ∧ b < wr.heap.size ∧ wr.cell? ⟨b, off + i, none⟩ = some (.bool (faB M (atL S (i : Int)))) := by
        rcases hyh.out.below hBr with h | ⟨b, off, e, hl, hc⟩
        · have h1 := bdC_len S M N
          rw [h] at h1
          simp at h1
          omega
        · exact ⟨b, off, e, hl, hc i _ (bdC_at hlt)⟩
      obtain ⟨bb, off, rfl, hbl, hcb⟩ := hrd
      obtain ⟨ka, kb, kc⟩ := hq.out.below hBr
      have hin : ∀ (W : World) (u : Option Addr), Rd W u (iC (atL S (i : Int))) → IIn W u (atL S (i : Int)) := fun _ _ h => atL_iin hsh.out (by omega) h
      replace hin := Lib.hid hin
      have hfi := Lib.hid (fine_of (E := E) hsh.out hedh.out (at_fitE hsh.out (show (0 : Int) ≤ (i : Int) by omega)))
      cases hfa : faB M (atL S (i : Int))
      · rw [hfa] at hcb
        have hfah := Lib.hid hfa
        go_wp2_with fail
        go_region_held3 (fun w' => Below (wr).heap.size (wr) w' ∧ (∀ b o, b < (wr).heap.size → w'.cell? ⟨b, o, none⟩ = (wr).cell? ⟨b, o, none⟩)) (first | exact keep_of (Below.refl _ _) | ((try go_split_ands); exact keep_of (by repeat (first | exact Below.refl _ _ | assumption | refine Below.drew ?_ | refine below_drewN ?_ _ | refine Below.alloc' ?_ _ | (refine Below.setCell ?_ (by first | omega | (simp; done) | (simp; omega) | exact Below.size (by assumption) | exact Nat.le_trans (Below.size (by assumption)) (by simp)) _) | (refine Below.via' ?_ (by assumption)) | (refine Below.alloc ?_ (by first | omega | (simp; done) | (simp; omega) | exact Below.size (by assumption) | exact Nat.le_trans (Below.size (by assumption)) (by simp)) _) | (refine Below.via ?_ (by assumption) (by first | omega | (simp; done) | (simp; omega) | exact Below.size (by assumption) | exact Nat.le_trans (Below.size (by assumption)) (by simp))))))) (first | (go_at_call 121; refine (sAt_any _ _ S i _ hsh.out (by omega) (by omega) hm (hSh.out.rd.below (by exact (by repeat (first | exact Below.refl _ _ | assumption | refine Below.drew ?_ | refine below_drewN ?_ _ | refine Below.alloc' ?_ _ | (refine Below.setCell ?_ (by first | omega | (simp; done) | (simp; omega) | exact Below.size (by assumption) | exact Nat.le_trans (Below.size (by assumption)) (by simp)) _) | (refine Below.via' ?_ (by assumption)) | (refine Below.alloc ?_ (by first | omega | (simp; done) | (simp; omega) | exact Below.size (by assumption) | exact Nat.le_trans (Below.size (by assumption)) (by simp)) _) | (refine Below.via ?_ (by assumption) (by first | omega | (simp; done) | (simp; omega) | exact Below.size (by assumption) | exact Nat.le_trans (Below.size (by assumption)) (by simp)))))))).mono ?_; rintro e w3 ⟨u3, rfl, ho3, hb3⟩; (obtain ⟨x3, n3, rfl, -, -⟩ := (OwR.of ho3).form); (replace ho3 := Lib.hid (Rd.of_own ho3))) | (go_at_call 120; refine (eFails_any _ _ _ _ E (atL S i) _ hfi.out (hEh.out.below (by exact (by repeat (first | exact Below.refl _ _ | assumption | refine Below.drew ?_ | refine below_drewN ?_ _ | refine Below.alloc' ?_ _ | (refine Below.setCell ?_ (by first | omega | (simp; done) | (simp; omega) | exact Below.size (by assumption) | exact Nat.le_trans (Below.size (by assumption)) (by simp)) _) | (refine Below.via' ?_ (by assumption)) | (refine Below.alloc ?_ (by first | omega | (simp; done) | (simp; omega) | exact Below.size (by assumption) | exact Nat.le_trans (Below.size (by assumption)) (by simp)) _) | (refine Below.via ?_ (by assumption) (by first | omega | (simp; done) | (simp; omega) | exact Below.size (by assumption) | exact Nat.le_trans (Below.size (by assumption)) (by simp))))))) (hin.out _ _ (ho3.out.below (by exact (by repeat (first | exact Below.refl _ _ | assumption | refine Below.drew ?_ | refine below_drewN ?_ _ | refine Below.alloc' ?_ _ | (refine Below.setCell ?_ (by first | omega | (simp; done) | (simp; omega) | exact Below.size (by assumption) | exact Nat.le_trans (Below.size (by assumption)) (by simp)) _) | (refine Below.via' ?_ (by assumption)) | (refine Below.alloc ?_ (by first | omega | (simp; done) | (simp; omega) | exact Below.size (by assumption) | exact Nat.le_trans (Below.size (by assumption)) (by simp)) _) | (refine Below.via ?_ (by assumption) (by first | omega | (simp; done) | (simp; omega) | exact Below.size (by assumption) | exact Nat.le_trans (Below.size (by assumption)) (by simp))))))))).mono ?_; rintro e w4 ⟨rfl, hb4⟩)); rename_i hH; obtain ⟨hb4, hcl4⟩ := hH; have hz4 := hb4.size; (try simp at hz4); (try (have hly4 := Nat.lt_of_succ_le hz4)); (try (have hlx4 := Nat.lt_of_succ_lt hly4)); (try (have hlw4 := Nat.lt_of_succ_lt hlx4)); (try (have hle4 := Nat.le_of_lt hly4)); (try (have hya4 : w.heap.size < w4.heap.size := by omega)); (try (have hyb4 : w.heap.size + 1 < w4.heap.size := by omega)); (try (have hyc4 : w.heap.size + 1 + 1 < w4.heap.size := by omega)); (try (have hyd4 : wa.heap.size < w4.heap.size := by omega))
        cases hh : fsB E (atL S (i : Int))
        · have hhh := Lib.hid hh
          go_wp2
          go_roundw
          case rel =>
            refine ⟨i + 1, by omega, by go_num, fun j hj hj0 => ?_, (by repeat (first | exact Below.refl _ _ | assumption | refine Below.drew ?_ | refine below_drewN ?_ _ | refine Below.alloc' ?_ _ | (refine Below.setCell ?_ (by first | omega | (simp; done) | (simp; omega) | exact Below.size (by assumption) | exact Nat.le_trans (Below.size (by assumption)) (by simp)) _) | (refine Below.via' ?_ (by assumption)) | (refine Below.alloc ?_ (by first | omega | (simp; done) | (simp; omega) | exact Below.size (by assumption) | exact Nat.le_trans (Below.size (by assumption)) (by simp)) _) | (refine Below.via ?_ (by assumption) (by first | omega | (simp; done) | (simp; omega) | exact Below.size (by assumption) | exact Nat.le_trans (Below.size (by assumption)) (by simp)))))⟩
            rcases Nat.lt_or_ge j i with hj2 | hj2
            · exact hall.out j hj2 hj0
            · obtain rfl : j = i := by omega
              exact hhh.out
          case measure => simp [intOf]; omega
        · have hv := Lib.hid (imV_bad (S := S) (E := E) (psN_mem.2 ⟨hlt, hfah.out⟩) hh)
          go_wp2
          go_ret
          exact ⟨ret_bool hv.out.symm, (by repeat (first | exact Below.refl _ _ | assumption | refine Below.drew ?_ | refine below_drewN ?_ _ | refine Below.alloc' ?_ _ | (refine Below.setCell ?_ (by first | omega | (simp; done) | (simp; omega) | exact Below.size (by assumption) | exact Nat.le_trans (Below.size (by assumption)) (by simp)) _) | (refine Below.via' ?_ (by assumption)) | (refine Below.alloc ?_ (by first | omega | (simp; done) | (simp; omega) | exact Below.size (by assumption) | exact Nat.le_trans (Below.size (by assumption)) (by simp)) _) | (refine Below.via ?_ (by assumption) (by first | omega | (simp; done) | (simp; omega) | exact Below.size (by assumption) | exact Nat.le_trans (Below.size (by assumption)) (by simp)))))⟩
      · rw [hfa] at hcb
        have hfah := Lib.hid hfa
        go_wp2_with fail
        first | go_quiet (fail) | go_region | fail
        go_wp2
        go_roundw
        case rel =>
          refine ⟨i + 1, by omega, by go_num, fun j hj hj0 => ?_, (by repeat (first | exact Below.refl _ _ | assumption | refine Below.drew ?_ | refine below_drewN ?_ _ | refine Below.alloc' ?_ _ | (refine Below.setCell ?_ (by first | omega | (simp; done) | (simp; omega) | exact Below.size (by assumption) | exact Nat.le_trans (Below.size (by assumption)) (by simp)) _) | (refine Below.via' ?_ (by assumption)) | (refine Below.alloc ?_ (by first | omega | (simp; done) | (simp; omega) | exact Below.size (by assumption) | exact Nat.le_trans (Below.size (by assumption)) (by simp)) _) | (refine Below.via ?_ (by assumption) (by first | omega | (simp; done) | (simp; omega) | exact Below.size (by assumption) | exact Nat.le_trans (Below.size (by assumption)) (by simp)))))⟩
          rcases Nat.lt_or_ge j i with hj2 | hj2
          · exact hall.out j hj2 hj0
          · obtain rfl : j = i := by omega
            rw [hfah.out] at hj0
            cases hj0
        case measure => simp [intOf]; omega
    · have hij : i = N := by omega
      subst hij
      have hv : Hid (imV S (psN S M i) E = true) := imV_all fun k hk => by
        obtain ⟨h1, h2⟩ := psN_mem.1 hk
        exact hall.out k h1 h2
      clear hall
      go_wp2
      go_ret
      exact ⟨ret_bool hv.out.symm, (by repeat (first | exact Below.refl _ _ | assumption | refine Below.drew ?_ | refine below_drewN ?_ _ | refine Below.alloc' ?_ _ | (refine Below.setCell ?_ (by first | omega | (simp; done) | (simp; omega) | exact Below.size (by assumption) | exact Nat.le_trans (Below.size (by assumption)) (by simp)) _) | (refine Below.via' ?_ (by assumption)) | (refine Below.alloc ?_ (by first | omega | (simp; done) | (simp; omega) | exact Below.size (by assumption) | exact Nat.le_trans (Below.size (by assumption)) (by simp)) _) | (refine Below.via ?_ (by assumption) (by first | omega | (simp; done) | (simp; omega) | exact Below.size (by assumption) | exact Nat.le_trans (Below.size (by assumption)) (by simp)))))⟩
set_option maxHeartbeats 4000000 in
theorem sIM_x (x y z : Option Addr) (c1 c2 c3 : Nat) (S : List (ByteArray × Int)) (Q : List PR) (E : List Int) (w : World) (hS : SIn w x c1 S) (hQ : EIn w y Q) (hE : IIn w z E) :
    Calls Try.prog 27 #[.slice x S.length c1, .slice y Q.length c2, .agg #[.slice z E.length c3]] w fun e w' => e = .returned (.tuple #[.bool (imB S (eM Q) E), .bool (imG S (eM Q) E)]) ∧ Below w.heap.size w w' := by
  have hSh := Lib.hid hS
  have hQh := Lib.hid hQ
  have hEh := Lib.hid hE
  have hm := hS.1
  clear hS hQ hE
  have hq := Lib.hid (QB.new w z E.length c3 28)
  go_enter Try.func27, Try.ntmps27
  go_wp2_with fail
  refine (eSmall_any _ _ _ _ S Q _ (hSh.out.below (by exact (by repeat (first | exact Below.refl _ _ | assumption | refine Below.drew ?_ | refine below_drewN ?_ _ | refine Below.alloc' ?_ _ | (refine Below.setCell ?_ (by first | omega | (simp; done) | (simp; omega) | exact Below.size (by assumption) | exact Nat.le_trans (Below.size (by assumption)) (by simp)) _) | (refine Below.via' ?_ (by assumption)) | (refine Below.alloc ?_ (by first | omega | (simp; done) | (simp; omega) | exact Below.size (by assumption) | exact Nat.le_trans (Below.size (by assumption)) (by simp)) _) | (refine Below.via ?_ (by assumption) (by first | omega | (simp; done) | (simp; omega) | exact Below.size (by assumption) | exact Nat.le_trans (Below.size (by assumption)) (by simp))))))) (hQh.out.below (by exact (by repeat (first | exact Below.refl _ _ | assumption | refine Below.drew ?_ | refine below_drewN ?_ _ | refine Below.alloc' ?_ _ | (refine Below.setCell ?_ (by first | omega | (simp; done) | (simp; omega) | exact Below.size (by assumption) | exact Nat.le_trans (Below.size (by assumption)) (by simp)) _) | (refine Below.via' ?_ (by assumption)) | (refine Below.alloc ?_ (by first | omega | (simp; done) | (simp; omega) | exact Below.size (by assumption) | exact Nat.le_trans (Below.size (by assumption)) (by simp)) _) | (refine Below.via ?_ (by assumption) (by first | omega | (simp; done) | (simp; omega) | exact Below.size (by assumption) | exact Nat.le_trans (Below.size (by assumption)) (by simp)))))))).mono ?_
  rintro e w1 ⟨rfl, hb1⟩
  have hq1 := Lib.hid (hq.out.below hb1)
  obtain ⟨ka, kb, kc⟩ := hq1.out
  cases hs : smB S (eM Q)
  · have hv := Lib.hid (imG_no1 (E := E) hs)
    go_wp2
    go_ret2
    exact ⟨ret_bbE hv.out.2.symm hv.out.1.symm, (by repeat (first | exact Below.refl _ _ | assumption | refine Below.drew ?_ | refine below_drewN ?_ _ | refine Below.alloc' ?_ _ | (refine Below.setCell ?_ (by first | omega | (simp; done) | (simp; omega) | exact Below.size (by assumption) | exact Nat.le_trans (Below.size (by assumption)) (by simp)) _) | (refine Below.via' ?_ (by assumption)) | (refine Below.alloc ?_ (by first | omega | (simp; done) | (simp; omega) | exact Below.size (by assumption) | exact Nat.le_trans (Below.size (by assumption)) (by simp)) _) | (refine Below.via ?_ (by assumption) (by first | omega | (simp; done) | (simp; omega) | exact Below.size (by assumption) | exact Nat.le_trans (Below.size (by assumption)) (by simp)))))⟩
  have hsmh := Lib.hid hs
  have heh := Lib.hid (sm_get hs).1
  have hsh := Lib.hid (el_get (sm_get hs).1).1
  clear hs
  go_wp2_with fail
  refine (eGood_any _ _ _ _ S E _ hsh.out hm (hSh.out.rd.below (by exact (by repeat (first | exact Below.refl _ _ | assumption | refine Below.drew ?_ | refine below_drewN ?_ _ | refine Below.alloc' ?_ _ | (refine Below.setCell ?_ (by first | omega | (simp; done) | (simp; omega) | exact Below.size (by assumption) | exact Nat.le_trans (Below.size (by assumption)) (by simp)) _) | (refine Below.via' ?_ (by assumption)) | (refine Below.alloc ?_ (by first | omega | (simp; done) | (simp; omega) | exact Below.size (by assumption) | exact Nat.le_trans (Below.size (by assumption)) (by simp)) _) | (refine Below.via ?_ (by assumption) (by first | omega | (simp; done) | (simp; omega) | exact Below.size (by assumption) | exact Nat.le_trans (Below.size (by assumption)) (by simp))))))) (hEh.out.below (by exact (by repeat (first | exact Below.refl _ _ | assumption | refine Below.drew ?_ | refine below_drewN ?_ _ | refine Below.alloc' ?_ _ | (refine Below.setCell ?_ (by first | omega | (simp; done) | (simp; omega) | exact Below.size (by assumption) | exact Nat.le_trans (Below.size (by assumption)) (by simp)) _) | (refine Below.via' ?_ (by assumption)) | (refine Below.alloc ?_ (by first | omega | (simp; done) | (simp; omega) | exact Below.size (by assumption) | exact Nat.le_trans (Below.size (by assumption)) (by simp)) _) | (refine Below.via ?_ (by assumption) (by first | omega | (simp; done) | (simp; omega) | exact Below.size (by assumption) | exact Nat.le_trans (Below.size (by assumption)) (by simp)))))))).mono ?_
  rintro e w3 ⟨rfl, hb3⟩
  have hq3 := Lib.hid (hq1.out.below hb3)
  obtain ⟨ka3, kb3, kc3⟩ := hq3.out
  cases hf : edB S E
  · have hv := Lib.hid (imG_no2 (M := eM Q) hf)
    go_wp2
    go_ret2
    exact ⟨ret_bbE hv.out.2.symm hv.out.1.symm, (by repeat (first | exact Below.refl _ _ | assumption | refine Below.drew ?_ | refine below_drewN ?_ _ | refine Below.alloc' ?_ _ | (refine Below.setCell ?_ (by first | omega | (simp; done) | (simp; omega) | exact Below.size (by assumption) | exact Nat.le_trans (Below.size (by assumption)) (by simp)) _) | (refine Below.via' ?_ (by assumption)) | (refine Below.alloc ?_ (by first | omega | (simp; done) | (simp; omega) | exact Below.size (by assumption) | exact Nat.le_trans (Below.size (by assumption)) (by simp)) _) | (refine Below.via ?_ (by assumption) (by first | omega | (simp; done) | (simp; omega) | exact Below.size (by assumption) | exact Nat.le_trans (Below.size (by assumption)) (by simp)))))⟩
  have hfh := Lib.hid hf
  clear hf
  have hv := Lib.hid (imG_yes hsmh.out hfh.out)
  obtain ⟨n1, n2⟩ := cn_all hsh.out
  have hNh : Hid (cnZ S = (((cnZ S).toNat : Nat) : Int)) := by unfold Hid; omega
  have hB3 : Below w.heap.size w w3 := (by repeat (first | exact Below.refl _ _ | assumption | refine Below.drew ?_ | refine below_drewN ?_ _ | refine Below.alloc' ?_ _ | (refine Below.setCell ?_ (by first | omega | (simp; done) | (simp; omega) | exact Below.size (by assumption) | exact Nat.le_trans (Below.size (by assumption)) (by simp)) _) | (refine Below.via' ?_ (by assumption)) | (refine Below.alloc ?_ (by first | omega | (simp; done) | (simp; omega) | exact Below.size (by assumption) | exact Nat.le_trans (Below.size (by assumption)) (by simp)) _) | (refine Below.via ?_ (by assumption) (by first | omega | (simp; done) | (simp; omega) | exact Below.size (by assumption) | exact Nat.le_trans (Below.size (by assumption)) (by simp)))))
  clear n1 n2 ka kb kc
  go_wp2_with fail
  go_region_held3 (fun w' => Below (w3).heap.size (w3) w' ∧ (∀ b o, b < (w3).heap.size → w'.cell? ⟨b, o, none⟩ = (w3).cell? ⟨b, o, none⟩)) (first | exact keep_of (Below.refl _ _) | ((try go_split_ands); exact keep_of (by repeat (first | exact Below.refl _ _ | assumption | refine Below.drew ?_ | refine below_drewN ?_ _ | refine Below.alloc' ?_ _ | (refine Below.setCell ?_ (by first | omega | (simp; done) | (simp; omega) | exact Below.size (by assumption) | exact Nat.le_trans (Below.size (by assumption)) (by simp)) _) | (refine Below.via' ?_ (by assumption)) | (refine Below.alloc ?_ (by first | omega | (simp; done) | (simp; omega) | exact Below.size (by assumption) | exact Nat.le_trans (Below.size (by assumption)) (by simp)) _) | (refine Below.via ?_ (by assumption) (by first | omega | (simp; done) | (simp; omega) | exact Below.size (by assumption) | exact Nat.le_trans (Below.size (by assumption)) (by simp))))))) (first | (go_at_call 79; refine (eBad_any _ _ _ _ S Q _ heh.out (hSh.out.below (by exact (by repeat (first | exact Below.refl _ _ | assumption | refine Below.drew ?_ | refine below_drewN ?_ _ | refine Below.alloc' ?_ _ | (refine Below.setCell ?_ (by first | omega | (simp; done) | (simp; omega) | exact Below.size (by assumption) | exact Nat.le_trans (Below.size (by assumption)) (by simp)) _) | (refine Below.via' ?_ (by assumption)) | (refine Below.alloc ?_ (by first | omega | (simp; done) | (simp; omega) | exact Below.size (by assumption) | exact Nat.le_trans (Below.size (by assumption)) (by simp)) _) | (refine Below.via ?_ (by assumption) (by first | omega | (simp; done) | (simp; omega) | exact Below.size (by assumption) | exact Nat.le_trans (Below.size (by assumption)) (by simp))))))) (hQh.out.below (by exact (by repeat (first | exact Below.refl _ _ | assumption | refine Below.drew ?_ | refine below_drewN ?_ _ | refine Below.alloc' ?_ _ | (refine Below.setCell ?_ (by first | omega | (simp; done) | (simp; omega) | exact Below.size (by assumption) | exact Nat.le_trans (Below.size (by assumption)) (by simp)) _) | (refine Below.via' ?_ (by assumption)) | (refine Below.alloc ?_ (by first | omega | (simp; done) | (simp; omega) | exact Below.size (by assumption) | exact Nat.le_trans (Below.size (by assumption)) (by simp)) _) | (refine Below.via ?_ (by assumption) (by first | omega | (simp; done) | (simp; omega) | exact Below.size (by assumption) | exact Nat.le_trans (Below.size (by assumption)) (by simp))))))) _ hNh.out).mono ?_; rintro e w4 ⟨g4, rfl, ho4, hb4⟩; (replace ho4 := Lib.hid (Rd.of_own ho4))) | (go_at_call 78; refine (eCovered_any _ _ _ _ _ _ S (eM Q) E _ _ hsh.out hfh.out (hSh.out.below (by exact (by repeat (first | exact Below.refl _ _ | assumption | refine Below.drew ?_ | refine below_drewN ?_ _ | refine Below.alloc' ?_ _ | (refine Below.setCell ?_ (by first | omega | (simp; done) | (simp; omega) | exact Below.size (by assumption) | exact Nat.le_trans (Below.size (by assumption)) (by simp)) _) | (refine Below.via' ?_ (by assumption)) | (refine Below.alloc ?_ (by first | omega | (simp; done) | (simp; omega) | exact Below.size (by assumption) | exact Nat.le_trans (Below.size (by assumption)) (by simp)) _) | (refine Below.via ?_ (by assumption) (by first | omega | (simp; done) | (simp; omega) | exact Below.size (by assumption) | exact Nat.le_trans (Below.size (by assumption)) (by simp))))))) hNh.out (ho4.out.below (by exact (by repeat (first | exact Below.refl _ _ | assumption | refine Below.drew ?_ | refine below_drewN ?_ _ | refine Below.alloc' ?_ _ | (refine Below.setCell ?_ (by first | omega | (simp; done) | (simp; omega) | exact Below.size (by assumption) | exact Nat.le_trans (Below.size (by assumption)) (by simp)) _) | (refine Below.via' ?_ (by assumption)) | (refine Below.alloc ?_ (by first | omega | (simp; done) | (simp; omega) | exact Below.size (by assumption) | exact Nat.le_trans (Below.size (by assumption)) (by simp)) _) | (refine Below.via ?_ (by assumption) (by first | omega | (simp; done) | (simp; omega) | exact Below.size (by assumption) | exact Nat.le_trans (Below.size (by assumption)) (by simp))))))) (hEh.out.below (by exact (by repeat (first | exact Below.refl _ _ | assumption | refine Below.drew ?_ | refine below_drewN ?_ _ | refine Below.alloc' ?_ _ | (refine Below.setCell ?_ (by first | omega | (simp; done) | (simp; omega) | exact Below.size (by assumption) | exact Nat.le_trans (Below.size (by assumption)) (by simp)) _) | (refine Below.via' ?_ (by assumption)) | (refine Below.alloc ?_ (by first | omega | (simp; done) | (simp; omega) | exact Below.size (by assumption) | exact Nat.le_trans (Below.size (by assumption)) (by simp)) _) | (refine Below.via ?_ (by assumption) (by first | omega | (simp; done) | (simp; omega) | exact Below.size (by assumption) | exact Nat.le_trans (Below.size (by assumption)) (by simp)))))))).mono ?_; rintro e w5 ⟨rfl, hb5⟩)); rename_i hH; obtain ⟨hb5, hcl5⟩ := hH; have hz5 := hb5.size; (try simp at hz5); (try (have hly5 := Nat.lt_of_succ_le hz5)); (try (have hlx5 := Nat.lt_of_succ_lt hly5)); (try (have hlw5 := Nat.lt_of_succ_lt hlx5)); (try (have hle5 := Nat.le_of_lt hly5)); (try (have hya5 : w.heap.size < w5.heap.size := by omega)); (try (have hyb5 : w.heap.size + 1 < w5.heap.size := by omega)); (try (have hyc5 : w.heap.size + 1 + 1 < w5.heap.size := by omega)); (try (have hyd5 : wa.heap.size < w5.heap.size := by omega))
  go_wp2
  go_ret2
  exact ⟨ret_bbE hv.out.2.symm hv.out.1.symm, (by repeat (first | exact Below.refl _ _ | assumption | refine Below.drew ?_ | refine below_drewN ?_ _ | refine Below.alloc' ?_ _ | (refine Below.setCell ?_ (by first | omega | (simp; done) | (simp; omega) | exact Below.size (by assumption) | exact Nat.le_trans (Below.size (by assumption)) (by simp)) _) | (refine Below.via' ?_ (by assumption)) | (refine Below.alloc ?_ (by first | omega | (simp; done) | (simp; omega) | exact Below.size (by assumption) | exact Nat.le_trans (Below.size (by assumption)) (by simp)) _) | (refine Below.via ?_ (by assumption) (by first | omega | (simp; done) | (simp; omega) | exact Below.size (by assumption) | exact Nat.le_trans (Below.size (by assumption)) (by simp)))))⟩
theorem sIM_m (x y z : Option Addr) (c1 c2 c3 : Nat) (S : List (ByteArray × Int)) (Q : List PR) (E : List Int) (w : World) (hS : SIn w x c1 S) (hQ : EIn w y Q) (hE : IIn w z E) (M : List (List Int)) (hM : eM Q = M) :
    Calls Try.prog 27 #[.slice x S.length c1, .slice y Q.length c2, .agg #[.slice z E.length c3]] w fun e w' => e = .returned (.tuple #[.bool (imB S M E), .bool (imG S M E)]) ∧ Below w.heap.size w w' := by subst hM; exact sIM_x x y z c1 c2 c3 S Q E w hS hQ hE
end Go.Proofs.Ytfaobfgckfjnjaa
