/-
  The laws' marks on lists of variables: the text of a number, the marks and their test.
-/
import Derived.Test.YtgkaalonmkcclabVar
namespace Go.Proofs.Ytgkaalonmkcclab
open Go.RowKit
set_option maxRecDepth 100000

/-- One byte as a string; the text that a mark takes from a number. -/
def byT (n : Int) : ByteArray := ⟨#[UInt8.ofNat n.toNat]⟩
theorem byT_len (n : Int) : (byT n).size = 1 := rfl
theorem cv_byte (n : Int) (h0 : 0 ≤ n) (h1 : n < 256) : ∀ (W : World) (g : Nat), W.cell? ⟨g, 0, none⟩ = some (.int .u8 n) →
    (convert 40 9 (.slice (some ⟨g, 0, none⟩) 1 1)).run Try.prog W = .ok (.string (byT n)) W := by
  intro W g h
  have e : ((UInt8.ofNat n.toNat).toNat : Int) = n := by simp; omega
  exact run_convert_bytes_back W 40 9 5 ⟨g, 0, none⟩ 1 [UInt8.ofNat n.toNat] Try.underlying40 Try.underlying5 Try.underlying9 (fun j hj => by
    obtain rfl : j = 0 := by simpa using hj
    show W.cell? ((⟨g, 0, none⟩ : Addr).add 0) = some (.int .u8 ((UInt8.ofNat n.toNat).toNat : Int))
    rw [e]
    simpa [Addr.add] using h)
def mtF : Nat → Int → ByteArray → ByteArray
  | 0, _, out => out
  | f + 1, k, out => if k ≤ 0 then out else mtF f (k / 10) (byT (48 + k % 10) ++ out)
def mtT (k : Int) : ByteArray := ⟨#[109]⟩ ++ mtF 13 k ⟨#[]⟩
theorem mtF_end {f : Nat} {k : Int} {out : ByteArray} (h : k ≤ 0) : mtF f k out = out := by
  cases f with
  | zero => rfl
  | succ f => unfold mtF; rw [if_pos h]
theorem mtF_step {f : Nat} {k : Int} {out : ByteArray} (h : 0 < k) : mtF (f + 1) k out = mtF f (k / 10) (byT (48 + k % 10) ++ out) := by
  show (if k ≤ 0 then out else _) = _
  rw [if_neg (by omega)]
theorem mtF_len : ∀ (f : Nat) (k : Int) (out : ByteArray), (mtF f k out).size ≤ out.size + f
  | 0, k, out => by show out.size ≤ _; omega
  | f + 1, k, out => by
    unfold mtF
    split
    · omega
    · have := mtF_len f (k / 10) (byT (48 + k % 10) ++ out)
      rw [ByteArray.size_append, byT_len] at this
      omega
theorem ret_sT {a b : ByteArray} (h : a = b) : Ending.returned (.string a) = .returned (.string b) := by rw [h]

set_option maxHeartbeats 1000000 in
theorem markText_any (k : Int) (w : World) (h0 : 0 < k) (h1 : k ≤ 1000000000000) :
    Calls Try.prog 109 #[.int .i64 k] w fun e w' => e = .returned (.string (mtT k)) ∧ Below w.heap.size w w' := by
  go_enter Try.func109, Try.ntmps109
  go_wp2
  go_loopw [0, 3] (fun a s wr => ∃ (f : Nat) (q : Int) (out : ByteArray), a = .int .i64 q ∧ s = .string out ∧ 0 ≤ q ∧ q ≤ 1000000000000 ∧ Hid (q < 10 ^ f) ∧ f ≤ 13 ∧ out.size + f = 13 ∧ Hid (mtF f q out = mtF 13 k ⟨#[]⟩) ∧ Below w.heap.size w wr) (fun a _ _ => (intOf a).toNat)
  case atStart => exact ⟨13, k, ⟨#[]⟩, rfl, rfl, by omega, by omega, (by unfold Hid; omega), by omega, rfl, rfl, (by repeat (first | exact Below.refl _ _ | assumption | refine Below.drew ?_ | refine below_drewN ?_ _ | refine Below.alloc' ?_ _ | (refine Below.setCell ?_ (by first | omega | (simp; done) | (simp; omega) | exact Below.size (by assumption) | exact Nat.le_trans (Below.size (by assumption)) (by simp)) _) | (refine Below.via' ?_ (by assumption)) | (refine Below.alloc ?_ (by first | omega | (simp; done) | (simp; omega) | exact Below.size (by assumption) | exact Nat.le_trans (Below.size (by assumption)) (by simp)) _) | (refine Below.via ?_ (by assumption) (by first | omega | (simp; done) | (simp; omega) | exact Below.size (by assumption) | exact Nat.le_trans (Below.size (by assumption)) (by simp)))))⟩
  case round =>
    obtain ⟨f, q, out, rfl, rfl, q0, q1, hf, hf2, hol, hv, hb⟩ := hrel
    by_cases hq : 0 < q
    · obtain ⟨f', rfl⟩ : ∃ f', f = f' + 1 := by
        cases f with
        | zero => have := hf.out; simp at this; omega
        | succ f => exact ⟨f, rfl⟩
      have hcv := cv_byte (48 + q % 10) (by omega) (by omega)
      have hsz : ¬ 9223372036854775807 < (byT (48 + q % 10)).size + out.size := by rw [byT_len]; omega
      have hst := Lib.hid (mtF_step (f := f') (out := out) hq)
      have p1 : 0 ≤ q / 10 := by omega
      have p2 : q / 10 ≤ 1000000000000 := by omega
      have p3 : q / 10 < q := by omega
      have p4 : Hid (q / 10 < 10 ^ f') := by
        have := hf.out
        rw [Int.pow_succ] at this
        unfold Hid
        omega
      have r0 : 0 ≤ q % 10 := by omega
      have r1 : q % 10 < 10 := by omega
      go_wp2
      go_roundw
      case rel => exact ⟨f', q / 10, _, rfl, rfl, p1, p2, p4.out, by omega, by rw [ByteArray.size_append, byT_len]; omega, by unfold Hid; rw [← hst.out]; exact hv.out, (by repeat (first | exact Below.refl _ _ | assumption | refine Below.drew ?_ | refine below_drewN ?_ _ | refine Below.alloc' ?_ _ | (refine Below.setCell ?_ (by first | omega | (simp; done) | (simp; omega) | exact Below.size (by assumption) | exact Nat.le_trans (Below.size (by assumption)) (by simp)) _) | (refine Below.via' ?_ (by assumption)) | (refine Below.alloc ?_ (by first | omega | (simp; done) | (simp; omega) | exact Below.size (by assumption) | exact Nat.le_trans (Below.size (by assumption)) (by simp)) _) | (refine Below.via ?_ (by assumption) (by first | omega | (simp; done) | (simp; omega) | exact Below.size (by assumption) | exact Nat.le_trans (Below.size (by assumption)) (by simp)))))⟩
      case measure => simp [intOf]; omega
    · have hv2 : Hid (out = mtF 13 k ⟨#[]⟩) := by unfold Hid; rw [← hv.out, mtF_end (by omega)]
      have hsz : ¬ 9223372036854775807 < (⟨#[109]⟩ : ByteArray).size + out.size := by
        have : (⟨#[109]⟩ : ByteArray).size = 1 := rfl
        omega
      clear hf hv
      go_wp2
      go_ret
      exact ⟨ret_sT (by unfold mtT; rw [← hv2.out]), hb⟩

/-- The marks that are laid into n variables, from k on. -/
def mvS (k : Int) (n : Nat) : List (ByteArray × Int) := (List.range n).map fun i : Nat => (mtT (k + 2 * (i : Int)), k + 2 * (i : Int) + 1)
theorem mvS_len (k : Int) (n : Nat) : (mvS k n).length = n := by unfold mvS; simp
theorem mvS_at (k : Int) {n i : Nat} (h : i < n) : (mvS k n)[i]? = some (mtT (k + 2 * (i : Int)), k + 2 * (i : Int) + 1) := by unfold mvS; simp [h]
theorem own_grown {w w' : World} {base e size g n cap : Nat} {xs : List Value} {r : Option Nat} (h : w.ownsRow base e size (.slice (some ⟨g, 0, none⟩) n cap) n xs) (hg : w.grownBy w' r) (hne : some g ≠ r) : w'.ownsRow base e size (.slice (some ⟨g, 0, none⟩) n cap) n xs :=
  h.kept hg (Or.inr hne)
theorem grown_of_bel {w w' : World} (h : Below w.heap.size w w') (r : Option Nat) : w.grownBy w' r := ⟨h.os, h.tape, h.output, h.size, fun k hk _ => h.block k hk⟩

set_option maxHeartbeats 2000000 in
theorem markVariableS_any (x : Option Addr) (n cap : Nat) (k : Int) (base : Nat) (xs : List Value) (w : World) (hk : 0 < k) (hk2 : k ≤ 1000000000) (hn : n ≤ 1048576) (hown : w.ownsRow base 93 2 (.slice x n cap) n xs) :
    Calls Try.prog 41 #[.slice x n cap, .int .i64 k] w fun e w' => e = .returned (.int .i64 (k + 2 * n)) ∧ w'.ownsRow base 93 2 (.slice x n cap) n (vC (mvS k n)) ∧ w.grownBy w' (Value.slice x n cap).ownBlock := by
  by_cases h0 : n = 0
  · subst h0
    have hxs : xs = vC (mvS k 0) := by
      have := hown.1
      simp at this
      subst this
      rfl
    subst hxs
    have hown := Lib.hid hown
    go_enter Try.func41, Try.ntmps41
    go_wp2
    refine wp_loop_rounds 1 ?_
    rw [rounds_succ]
    go_wp2
    go_ret
    exact ⟨ret_int (by omega), hown.out, World.grownBy.refl _ _⟩
  obtain ⟨g, rfl⟩ : ∃ g, x = some ⟨g, 0, none⟩ := by
    rcases hown.2 with ⟨h1, h2⟩ | ⟨g, c, cur, hv, _⟩
    · exact absurd h2 h0
    · injection hv with hx _ _
      exact ⟨g, hx⟩
  have hown0 := Lib.hid hown
  clear hown
  go_enter Try.func41, Try.ntmps41
  go_wp2
  go_loopw [1, 5] (fun q c wr => ∃ (i : Nat) (ys : List Value), i ≤ n ∧ c = .int .i64 i ∧ q = .int .i64 (k + 2 * i) ∧ wr.ownsRow base 93 2 (.slice (some ⟨g, 0, none⟩) n cap) n ys ∧ Hid (∀ j, j < i * 2 → ys[j]? = (vC (mvS k n))[j]?) ∧ w.grownBy wr (some g)) (fun _ c _ => n - (intOf c).toNat)
  case atStart => exact ⟨0, _, by omega, rfl, by go_num, hown0.out, (fun j hj => absurd hj (by omega)), World.grownBy.refl _ _⟩
  case round =>
    clear hown0
    obtain ⟨i, ys, hi, rfl, rfl, hown, hdone, hb⟩ := hrel
    by_cases hlt : i < n
    · obtain ⟨u, hu, k0⟩ := own_cell hown (j := i * 2) (by omega)
      obtain ⟨u', hu', k1⟩ := own_cell hown (j := i * 2 + 1) (by omega)
      have k2 := hown.frozenAt (i * 2)
      have k3 := hown.frozenAt (i * 2 + 1)
      have k4 := (own_lt hown).2
      replace hu := Lib.hid hu
      replace hu' := Lib.hid hu'
      have hoh := Lib.hid hown
      clear hown
      have hlt' : (i : Int) < (n : Int) := by omega
      go_wp2_with (go_at_call 109; refine (markText_any _ _ (by omega) (by omega)).mono ?_; rintro e w2 ⟨rfl, hb2⟩; obtain ⟨hcl2, hfr2⟩ := bcell hb2; have hz2 := hb2.size; (try simp at hz2); (try (have hly2 := Nat.lt_of_succ_le hz2)); (try (have hlx2 := Nat.lt_of_succ_lt hly2)); (try (have hlw2 := Nat.lt_of_succ_lt hlx2)); (try (have hle2 := Nat.le_of_lt hly2)); (try (have hya2 : w.heap.size < w2.heap.size := by omega)); (try (have hyb2 : w.heap.size + 1 < w2.heap.size := by omega)); (try (have hyc2 : w.heap.size + 1 + 1 < w2.heap.size := by omega)); (try (have hyd2 : wa.heap.size < w2.heap.size := by omega)))
      go_roundw
      case rel =>
        have hst := ((own_below hoh.out hb2).stored (i * 2) (.string (mtT (k + 2 * i))))
        have hst2 := hst.1.stored (i * 2 + 1) (.int .i64 (k + 2 * i + 1))
        refine ⟨i + 1, _, by omega, by go_num, by go_num, hst2.1, ?_, ((hb.trans (grown_of_bel hb2 _)).trans hst.2).trans hst2.2⟩
        intro j hj
        have hlen : ys.length = n * 2 := hoh.out.1
        rw [List.getElem?_set, List.getElem?_set]
        split
        · subst_vars
          rw [if_pos (by simp; omega), vC_at1 (mvS_at k hlt)]
        · split
          · subst_vars
            rw [if_pos (by omega), vC_at0 (mvS_at k hlt)]
          · exact hdone.out j (by omega)
      case measure => simp [intOf]; omega
    · have hij : i = n := by omega
      subst hij
      have hys : ys = vC (mvS k i) := by
        have hlen : ys.length = i * 2 := hown.1
        apply List.ext_getElem?
        intro j
        rcases Nat.lt_or_ge j (i * 2) with hj | hj
        · exact hdone.out j hj
        · rw [List.getElem?_eq_none (by omega), List.getElem?_eq_none (by rw [vC_len, mvS_len]; omega)]
      subst hys
      have hown := Lib.hid hown
      clear hdone
      go_wp2
      go_ret
      exact ⟨rfl, hown.out, hb⟩

end Go.Proofs.Ytgkaalonmkcclab
