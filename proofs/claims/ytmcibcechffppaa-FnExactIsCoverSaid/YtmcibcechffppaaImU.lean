/-
  The walks of chapter 6: IsImplied; the program's and the model's.
-/
import Derived.Test.YtmcibcechffppaaImT
import Derived.Test.YtmcibcechffppaaImS
import Derived.Deep.RegionHeld3
namespace Go.Proofs.Ytmcibcechffppaa
open Go.RowKit Go.Shelf
set_option maxRecDepth 100000
attribute [local go_sem] Oper.semAt_some

/-- A box that holds the lists of values that pass. -/
def ImIn (S : List (ByteArray × Int)) (M : List (List Int)) (N : Nat) (w : World) (B : Nat) : Prop :=
  ∃ (x : Option Addr) (c : Nat) (T : List PR), Boxed w B 88 (.slice x T.length c) ∧ EIn w x T ∧ eM T = psL S M N
theorem ImIn.below {S : List (ByteArray × Int)} {M : List (List Int)} {N B : Nat} {w w' : World} (h : ImIn S M N w B) (hb : Below w.heap.size w w') : ImIn S M N w' B := by
  obtain ⟨x, c, T, h1, h2, h3⟩ := h
  exact ⟨x, c, T, boxed_below h1 hb, h2.below hb, h3⟩
theorem ps_iin {S : List (ByteArray × Int)} {M : List (List Int)} {N : Nat} {T : List PR} {W : World} {nb : Nat} (hs : schB S = true) (hM : eM T = psL S M N) (hr : ∀ q ∈ T, W.ownsRow nb 3 1 q.v q.L.length (iC q.L)) : ∀ q ∈ T, IIn W q.x q.L := by
  intro q hq
  obtain ⟨j, hj, e⟩ := List.getElem_of_mem hq
  have h1 : (eM T)[j]? = some q.L := eM_at (by rw [List.getElem?_eq_getElem hj, e])
  rw [hM] at h1
  unfold psL at h1
  rw [List.getElem?_map] at h1
  cases hk : (psN S M N)[j]? with
  | none => rw [hk] at h1; cases h1
  | some k =>
    rw [hk] at h1
    have h2 : atL S (k : Int) = q.L := Option.some.inj h1
    rw [← h2]
    have h3 := hr q hq
    rw [← h2] at h3
    have h4 : Rd W q.x (iC (atL S (k : Int))) := by
      have h5 := h3
      unfold PR.v at h5
      rw [← h2] at h5
      exact Rd.of_own h5
    exact atL_iin hs (by omega) h4
/-- The closure that tells whether an edit is implied. -/
def ImPost (S : List (ByteArray × Int)) (M : List (List Int)) (N : Nat) (w : World) (e : Ending) (w' : World) : Prop :=
  ∃ B : Nat, e = .returned (.func (.func 102) #[] #[.pointer (some ⟨B, 0, none⟩)]) ∧ ImIn S M N w' B ∧ Below w.heap.size w w'
set_option maxHeartbeats 2000000 in
theorem impliedBy_any (x y : Option Addr) (c1 c2 : Nat) (S : List (ByteArray × Int)) (Q : List PR) (w : World) (hel : elB S (eM Q) = true) (hS : SIn w x c1 S) (hQ : EIn w y Q) (N : Nat) (hN : cnZ S = (N : Int)) :
    Calls Try.prog 56 #[.slice x S.length c1, .slice y Q.length c2] w (ImPost S (eM Q) N w) := by
  have hs := (el_get hel).1
  obtain ⟨n1, n2⟩ := cn_all hs
  have hN2 : N ≤ 262144 := by omega
  have bS := (Boxed.new w 29 (.slice x S.length c1)).alloc (.cells #[.slice y Q.length c2] 26)
  have bQ := Boxed.new (w.alloc (.cells #[.slice x S.length c1] 29)) 26 (.slice y Q.length c2)
  have hB0 : Below w.heap.size w ((w.alloc (.cells #[.slice x S.length c1] 29)).alloc (.cells #[.slice y Q.length c2] 26)) := (by repeat (first | exact Below.refl _ _ | assumption | refine Below.drew ?_ | refine below_drewN ?_ _ | refine Below.alloc' ?_ _ | (refine Below.setCell ?_ (by first | omega | (simp; done) | (simp; omega) | exact Below.size (by assumption) | exact Nat.le_trans (Below.size (by assumption)) (by simp)) _) | (refine Below.via' ?_ (by assumption)) | (refine Below.alloc ?_ (by first | omega | (simp; done) | (simp; omega) | exact Below.size (by assumption) | exact Nat.le_trans (Below.size (by assumption)) (by simp)) _) | (refine Below.via ?_ (by assumption) (by first | omega | (simp; done) | (simp; omega) | exact Below.size (by assumption) | exact Nat.le_trans (Below.size (by assumption)) (by simp)))))
  rw [World.size_alloc] at bQ
  have hc := Lib.hid (collect_any w.heap.size (w.heap.size + 1) x y c1 c2 S Q w _ hel hS hQ N hN hN2 hB0 bS bQ)
  have hsh := Lib.hid hs
  have hw0 := hB0.size
  clear hel hS hQ hN bS bQ hs n1 n2
  go_enter Try.func56, Try.ntmps56
  go_wp2_with fail
  refine (passingValues_any _ _ _ _ _ _ _).mono ?_
  rintro e w4 ⟨rfl, rfl⟩
  go_wp2_with fail
  refine hc.out.mono ?_
  rintro e w5 ⟨v, T, rfl, hrow, hin, hM, hb5⟩
  obtain ⟨xv, cv, rfl, -, -⟩ := (OwR.of hrow).form
  have hB5 : Below w.heap.size w w5 := hB0.trans (hb5.mono hw0)
  have hbx := Boxed.new w5 88 (.slice xv T.length cv)
  have hb6 : Below w5.heap.size w5 (w5.alloc (.cells #[.slice xv T.length cv] 88)) := (Below.refl _ _).alloc (Nat.le_refl _) _
  have hTl : T.length ≤ 1048576 := by have h0 := psL_len S (eM Q) N; rw [← hM, eM_len] at h0; omega
  have hEI := Lib.hid (show EIn w5 xv T from ⟨hTl, ps_iin hsh.out hM hin, Rd.of_own hrow⟩)
  have hMh := Lib.hid hM
  clear hrow hin hM hc hb5 hw0
  go_wp2
  go_ret
  refine ⟨_, rfl, ⟨xv, cv, T, ?_, hEI.out.below ?_, hMh.out⟩, ?_⟩
  · first | exact hbx | (have h0 := (Boxed.new w5 88 (.slice none 0 0)).set (.slice xv T.length cv); exact h0)
  · exact (by repeat (first | exact Below.refl _ _ | assumption | refine Below.drew ?_ | refine below_drewN ?_ _ | refine Below.alloc' ?_ _ | (refine Below.setCell ?_ (by first | omega | (simp; done) | (simp; omega) | exact Below.size (by assumption) | exact Nat.le_trans (Below.size (by assumption)) (by simp)) _) | (refine Below.via' ?_ (by assumption)) | (refine Below.alloc ?_ (by first | omega | (simp; done) | (simp; omega) | exact Below.size (by assumption) | exact Nat.le_trans (Below.size (by assumption)) (by simp)) _) | (refine Below.via ?_ (by assumption) (by first | omega | (simp; done) | (simp; omega) | exact Below.size (by assumption) | exact Nat.le_trans (Below.size (by assumption)) (by simp)))))
  · exact (by repeat (first | exact Below.refl _ _ | assumption | refine Below.drew ?_ | refine below_drewN ?_ _ | refine Below.alloc' ?_ _ | (refine Below.setCell ?_ (by first | omega | (simp; done) | (simp; omega) | exact Below.size (by assumption) | exact Nat.le_trans (Below.size (by assumption)) (by simp)) _) | (refine Below.via' ?_ (by assumption)) | (refine Below.alloc ?_ (by first | omega | (simp; done) | (simp; omega) | exact Below.size (by assumption) | exact Nat.le_trans (Below.size (by assumption)) (by simp)) _) | (refine Below.via ?_ (by assumption) (by first | omega | (simp; done) | (simp; omega) | exact Below.size (by assumption) | exact Nat.le_trans (Below.size (by assumption)) (by simp)))))
set_option maxHeartbeats 2000000 in
theorem implied1_any (B : Nat) (z : Option Addr) (c : Nat) (S : List (ByteArray × Int)) (M : List (List Int)) (N : Nat) (E : List Int) (w : World) (hs : schB S = true) (hE : edB S E = true) (hI : ImIn S M N w B) (hz : IIn w z E) :
    Calls Try.prog 102 #[.agg #[.slice z E.length c], .pointer (some ⟨B, 0, none⟩)] w fun e w' => e = .returned (.bool (imV S (psN S M N) E)) ∧ Below w.heap.size w w' := by
  obtain ⟨x, cT, T, hb, hT, hM⟩ := hI
  have hq := Lib.hid (QB.new w z E.length c 62)
  have hb0 : Below w.heap.size w (w.alloc (.cells #[.slice z E.length c] 62)) := (by repeat (first | exact Below.refl _ _ | assumption | refine Below.drew ?_ | refine below_drewN ?_ _ | refine Below.alloc' ?_ _ | (refine Below.setCell ?_ (by first | omega | (simp; done) | (simp; omega) | exact Below.size (by assumption) | exact Nat.le_trans (Below.size (by assumption)) (by simp)) _) | (refine Below.via' ?_ (by assumption)) | (refine Below.alloc ?_ (by first | omega | (simp; done) | (simp; omega) | exact Below.size (by assumption) | exact Nat.le_trans (Below.size (by assumption)) (by simp)) _) | (refine Below.via ?_ (by assumption) (by first | omega | (simp; done) | (simp; omega) | exact Below.size (by assumption) | exact Nat.le_trans (Below.size (by assumption)) (by simp)))))
  have hbc := (boxed_below hb hb0).cell
  have hTh := Lib.hid (hT.below hb0)
  have hzh := Lib.hid (hz.below hb0)
  have hMh := Lib.hid hM
  have hsh := Lib.hid hs
  have hEh := Lib.hid hE
  have hTl := hT.1
  have hblt := hb.lt
  clear hb hT hz hM hs hE
  go_enter Try.func102, Try.ntmps102
  go_wp2
  go_loopw [8] (fun c2 wr => ∃ i : Nat, i ≤ T.length ∧ c2 = .int .i64 i ∧ Hid (∀ j, j < i → ∃ V, (eM T)[j]? = some V ∧ fsB E V = false) ∧ Below (w.alloc (.cells #[.slice z E.length c] 62)).heap.size (w.alloc (.cells #[.slice z E.length c] 62)) wr) (fun c2 _ => T.length - (intOf c2).toNat)
  case atStart => exact ⟨0, by omega, rfl, (fun j hj => absurd hj (by omega)), Below.refl _ _⟩
  case round =>
    obtain ⟨i, hi, rfl, hall, hBr⟩ := hrel
    by_cases hlt : i < T.length
    · obtain ⟨bl, off, q, rfl, hbl, hQq, hc0⟩ := (hTh.out.below hBr).2.2.ed hlt
      have hqi := Lib.hid ((hTh.out.2.1 q (List.mem_of_getElem? hQq)).below hBr)
      have hqe := Lib.hid (eM_at hQq)
      have hk : ∃ k : Nat, k ∈ psN S M N ∧ q.L = atL S (k : Int) := by
        have h1 := hqe.out
        rw [hMh.out] at h1
        unfold psL at h1
        obtain ⟨k, hk, e⟩ := List.mem_map.1 (List.mem_of_getElem? h1)
        exact ⟨k, hk, e.symm⟩
      obtain ⟨k, hkm, hkL⟩ := hk
      have hfi := Lib.hid (show Fine E q.L by rw [hkL]; exact fine_of hsh.out hEh.out (at_fitE hsh.out (by omega)))
      have hkmh := Lib.hid hkm
      have hkLh := Lib.hid hkL
      have hlt' : (i : Int) < (T.length : Int) := by omega
      obtain ⟨ka, kb, kc⟩ := hq.out.below hBr
      clear hQq hkm hkL
      cases hh : fsB E q.L
      · have hhh := Lib.hid hh
        go_wp2_with fail
        refine (failsEdit_any _ _ _ _ E q.L _ hfi.out (hzh.out.below hBr) hqi.out).mono ?_
        rintro e w3 ⟨rfl, hb3⟩
        rw [hh]
        go_wp2
        go_roundw
        case rel =>
          refine ⟨i + 1, by omega, by go_num, fun j hj => ?_, (by repeat (first | exact Below.refl _ _ | assumption | refine Below.drew ?_ | refine below_drewN ?_ _ | refine Below.alloc' ?_ _ | (refine Below.setCell ?_ (by first | omega | (simp; done) | (simp; omega) | exact Below.size (by assumption) | exact Nat.le_trans (Below.size (by assumption)) (by simp)) _) | (refine Below.via' ?_ (by assumption)) | (refine Below.alloc ?_ (by first | omega | (simp; done) | (simp; omega) | exact Below.size (by assumption) | exact Nat.le_trans (Below.size (by assumption)) (by simp)) _) | (refine Below.via ?_ (by assumption) (by first | omega | (simp; done) | (simp; omega) | exact Below.size (by assumption) | exact Nat.le_trans (Below.size (by assumption)) (by simp)))))⟩
          rcases Nat.lt_or_ge j i with hj2 | hj2
          · exact hall.out j hj2
          · obtain rfl : j = i := by omega
            exact ⟨_, hqe.out, hhh.out⟩
        case measure => simp [intOf]; omega
      · have hv := Lib.hid (imV_bad (S := S) (E := E) hkmh.out (by rw [← hkLh.out]; exact hh))
        go_wp2_with fail
        refine (failsEdit_any _ _ _ _ E q.L _ hfi.out (hzh.out.below hBr) hqi.out).mono ?_
        rintro e w3 ⟨rfl, hb3⟩
        rw [hh]
        go_wp2
        go_ret
        exact ⟨ret_bool hv.out.symm, (by repeat (first | exact Below.refl _ _ | assumption | refine Below.drew ?_ | refine below_drewN ?_ _ | refine Below.alloc' ?_ _ | (refine Below.setCell ?_ (by first | omega | (simp; done) | (simp; omega) | exact Below.size (by assumption) | exact Nat.le_trans (Below.size (by assumption)) (by simp)) _) | (refine Below.via' ?_ (by assumption)) | (refine Below.alloc ?_ (by first | omega | (simp; done) | (simp; omega) | exact Below.size (by assumption) | exact Nat.le_trans (Below.size (by assumption)) (by simp)) _) | (refine Below.via ?_ (by assumption) (by first | omega | (simp; done) | (simp; omega) | exact Below.size (by assumption) | exact Nat.le_trans (Below.size (by assumption)) (by simp)))))⟩
    · have hij : i = T.length := by omega
      subst hij
      have hv : Hid (imV S (psN S M N) E = true) := by
        refine imV_all fun k hk => ?_
        have h1 : atL S (k : Int) ∈ psL S M N := List.mem_map.2 ⟨k, hk, rfl⟩
        rw [← hMh.out] at h1
        obtain ⟨j, hj, e⟩ := List.getElem_of_mem h1
        obtain ⟨V, h2, h3⟩ := hall.out j (by rw [eM_len] at hj; exact hj)
        rw [List.getElem?_eq_getElem hj, e] at h2
        cases h2
        exact h3
      clear hall
      go_wp2
      go_ret
      exact ⟨ret_bool hv.out.symm, (by repeat (first | exact Below.refl _ _ | assumption | refine Below.drew ?_ | refine below_drewN ?_ _ | refine Below.alloc' ?_ _ | (refine Below.setCell ?_ (by first | omega | (simp; done) | (simp; omega) | exact Below.size (by assumption) | exact Nat.le_trans (Below.size (by assumption)) (by simp)) _) | (refine Below.via' ?_ (by assumption)) | (refine Below.alloc ?_ (by first | omega | (simp; done) | (simp; omega) | exact Below.size (by assumption) | exact Nat.le_trans (Below.size (by assumption)) (by simp)) _) | (refine Below.via ?_ (by assumption) (by first | omega | (simp; done) | (simp; omega) | exact Below.size (by assumption) | exact Nat.le_trans (Below.size (by assumption)) (by simp)))))⟩
/-- Which lists of values fail, as the model marks them. -/
def bdC (S : List (ByteArray × Int)) (M : List (List Int)) (N : Nat) : List Value := (List.range N).map fun k : Nat => .bool (faB M (atL S (k : Int)))
theorem bdC_len (S : List (ByteArray × Int)) (M : List (List Int)) (N : Nat) : (bdC S M N).length = N := by unfold bdC; simp
theorem bdC_at {S : List (ByteArray × Int)} {M : List (List Int)} {N i : Nat} (h : i < N) : (bdC S M N)[i]? = some (.bool (faB M (atL S (i : Int)))) := by unfold bdC; rw [List.getElem?_map, List.getElem?_range h]; rfl
theorem Try.infoBool : (Try.prog.info? 4).map (fun i => (i.zero, i.size, i.bytes)) = some (some (.bool false), 1, 1) := by kernel_rfl
def BdPost (S : List (ByteArray × Int)) (M : List (List Int)) (N : Nat) (w : World) (e : Ending) (w' : World) : Prop :=
  ∃ g : Nat, e = .returned (.slice (some ⟨g, 0, none⟩) N N) ∧ w'.ownsRow w.heap.size 4 1 (.slice (some ⟨g, 0, none⟩) N N) N (bdC S M N) ∧ Below w.heap.size w w'
end Go.Proofs.Ytmcibcechffppaa
