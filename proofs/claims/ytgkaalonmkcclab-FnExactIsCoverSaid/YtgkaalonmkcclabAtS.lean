/-
  The walks of chapter 2: the values with an index; the model's.
-/
import Derived.Test.YtgkaalonmkcclabAt
import Derived.Test.YtgkaalonmkcclabSchV
import Derived.Test.YtgkaalonmkcclabApp
namespace Go.Proofs.Ytgkaalonmkcclab
open Go.RowKit
set_option maxRecDepth 100000

/-- One below a count. -/
def pdZ (m : Nat) : Int := (m : Int) - 1
theorem pdZ_s (m : Nat) : pdZ (m + 1) = (m : Int) := by unfold pdZ; omega
theorem made_zeros (n : Nat) : (madeCells (Value.int .i64 0).cells (n * 1)).toList = iC (List.replicate n 0) := by
  apply List.ext_getElem?
  intro j
  unfold iC
  rw [List.map_replicate, List.getElem?_replicate]
  by_cases h : j < n
  · simp [madeCells, Value.cells, h, Nat.mod_one]
  · simp [madeCells, Value.cells, h]
theorem iC_setA (L : List Int) (j : Nat) (v : Int) : iC (L.set j v) = (iC L).set j (.int .i64 v) := by unfold iC; rw [List.map_set]
def AtPost2 (S : List (ByteArray × Int)) (i : Int) (w : World) (e : Ending) (w' : World) : Prop :=
  ∃ u, e = .returned u ∧ w'.ownsRow w.heap.size 3 1 u (atL S i).length (iC (atL S i)) ∧ Below w.heap.size w w'
set_option maxHeartbeats 2000000 in
theorem sAt_any (x : Option Addr) (cap : Nat) (S : List (ByteArray × Int)) (i : Int) (w : World) (hs : schB S = true) (h0 : 0 ≤ i) (h1 : i ≤ 262144) (hm : S.length ≤ 1048576) (hS : Rd w x (vC S)) :
    Calls Try.prog 113 #[.slice x S.length cap, .int .i64 i] w (AtPost2 S i w) := by
  obtain ⟨i0, hi, hz0, hz1, hz2⟩ := info_parts Try.infoInt
  have hbb : i0.bytes * S.length ≤ 281474976710656 := by rw [hz2]; omega
  have hmm : S.length ≤ maxLen := by unfold maxLen; omega
  have hsl := schB_len hs
  replace hs := Lib.hid hs
  have hSh := Lib.hid hS
  clear hS
  go_enter Try.func113, Try.ntmps113
  go_wp2_with (at_make; go_loud (refine wpList_make_full _ rfl _ _ 24 rfl w.heap.size 3 i0 (.int .i64 0) 1 Try.underlying24 hi hz0 hz1 .i64 .i64 _ _ S.length rfl rfl rfl rfl hbb hmm (Nat.le_refl _) (fun w1 hown hgrow => ?_)))
  have hb1 : Below w.heap.size w w1 := (Below.refl _ _).grown hgrow (Nat.le_refl _) (by intro k hk; cases hk)
  rw [made_zeros] at hown
  clear hgrow hi hz0 hz1 hz2
  go_loopw [1, 6] (fun q c wr => ∃ m : Nat, m ≤ S.length ∧ q = .int .i64 (atF S i m).1 ∧ c = .int .i64 (pdZ m) ∧ wr.ownsRow w.heap.size 3 1 (.slice (some ⟨w.heap.size, 0, none⟩) S.length S.length) S.length (iC (atF S i m).2) ∧ Below w.heap.size w wr) (fun _ c _ => (intOf c + 1).toNat)
  case atStart => exact ⟨S.length, Nat.le_refl _, by rw [atF_end], rfl, by rw [atF_end]; exact hown, hb1⟩
  case round =>
    clear hown hb1
    obtain ⟨m, hm', rfl, rfl, hown, hb⟩ := hrel
    obtain ⟨p0, p1⟩ := atFr_bd hs.out h0 (cmL S.length m) (fun j hj => cmL_lt hj)
    replace p0 : 0 ≤ (atF S i m).1 := p0
    replace p1 : (atF S i m).1 ≤ i := p1
    cases m with
    | zero =>
      have hz : pdZ 0 = -1 := rfl
      rw [hz]
      clear hz
      have hown := Lib.hid hown
      go_wp2
      go_ret
      exact ⟨_, rfl, by rw [atL_len]; exact hown.out, hb⟩
    | succ j =>
      rw [pdZ_s]
      obtain ⟨bl, off, nm, lv, rfl, hbl, hSi, hc0, hc1⟩ := (hSh.out.below hb).var (i := j) (by omega)
      obtain ⟨l1, l2⟩ := schB_lv hs.out hSi
      have hlv := lvA_at hSi
      obtain ⟨u, hu, k0⟩ := own_cell hown (j := j) (by omega)
      have k2 := hown.frozenAt j
      have k4 := (own_lt hown).2
      have hst := atF_step i (show j < S.length by omega)
      rw [show atStp S (atF S i (j + 1)) j = ((atF S i (j + 1)).1 / lv, (atF S i (j + 1)).2.set j ((atF S i (j + 1)).1 % lv)) by unfold atStp; rw [hlv]] at hst
      have hst1 := Lib.hid (congrArg Prod.fst hst)
      have hst2 := Lib.hid (congrArg Prod.snd hst)
      clear hst hlv
      replace hu := Lib.hid hu
      replace hSi := Lib.hid hSi
      have hlt' : (j : Int) < (S.length : Int) := by omega
      go_wp2
      go_roundw
      case rel =>
        refine ⟨j, by omega, by rw [hst1.out], rfl, ?_, (by repeat (first | exact Below.refl _ _ | assumption | refine Below.drew ?_ | refine below_drewN ?_ _ | refine Below.alloc' ?_ _ | (refine Below.setCell ?_ (by first | omega | (simp; done) | (simp; omega) | exact Below.size (by assumption) | exact Nat.le_trans (Below.size (by assumption)) (by simp)) _) | (refine Below.via' ?_ (by assumption)) | (refine Below.alloc ?_ (by first | omega | (simp; done) | (simp; omega) | exact Below.size (by assumption) | exact Nat.le_trans (Below.size (by assumption)) (by simp)) _) | (refine Below.via ?_ (by assumption) (by first | omega | (simp; done) | (simp; omega) | exact Below.size (by assumption) | exact Nat.le_trans (Below.size (by assumption)) (by simp)))))⟩
        rw [hst2.out, iC_setA]
        exact (hown.stored j _).1
      case measure => first | (simp [intOf]; done) | (simp [intOf]; omega)

end Go.Proofs.Ytgkaalonmkcclab
