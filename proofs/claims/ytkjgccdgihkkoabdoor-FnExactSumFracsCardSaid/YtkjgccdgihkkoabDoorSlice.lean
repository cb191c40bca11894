/-
  The laws' helpers on lists of fractions: making a copy, comparing two, the size.
-/
import Derived.Test.YtkjgccdgihkkoabDoorSum
import Derived.OwnWalk
namespace Go.Proofs.YtkjgccdgihkkoabDoor
open Go.RowKit
set_option maxRecDepth 100000

/-- Block g holds just these cells, and all of them may be written. -/
def WB (w : World) (g : Nat) (t : TypeId) (cs : Array Value) : Prop := w.heap[g]? = some (.cells cs t (0, 0))
theorem WB.inside {w : World} {g : Nat} {t : TypeId} {cs : Array Value} (h : WB w g t cs) : g < w.heap.size := by
  rcases Nat.lt_or_ge g w.heap.size with k | k
  · exact k
  · unfold WB at h
    rw [Array.getElem?_eq_none k] at h
    cases h
theorem WB.read {w : World} {g : Nat} {t : TypeId} {cs : Array Value} (h : WB w g t cs) (j : Nat) : w.cell? ⟨g, j, none⟩ = cs[j]? := by
  unfold WB at h
  simp [World.cell?, h]
theorem WB.free {w : World} {g : Nat} {t : TypeId} {cs : Array Value} (h : WB w g t cs) (j : Nat) : w.frozen? ⟨g, j, none⟩ = false := by
  unfold WB at h
  simp [World.frozen?, h]
theorem WB.kept {w w' : World} {g : Nat} {t : TypeId} {cs : Array Value} (h : WB w g t cs) (hb : Below w.heap.size w w') : WB w' g t cs := (hb.block g h.inside).trans h
theorem WB.put {w : World} {g : Nat} {t : TypeId} {cs : Array Value} (h : WB w g t cs) (j : Nat) (u : Value) : WB (w.setCell ⟨g, j, none⟩ u) g t (cs.setIfInBounds j u) := by
  unfold WB at h ⊢
  simp [World.setCell, Array.getElem?_modify, h]
theorem WB.of_own {w : World} {base e size n g : Nat} {xs : List Value} (h : w.ownsRow base e size (.slice (some ⟨g, 0, none⟩) n n) n xs) : ∃ cs : Array Value, WB w g e cs ∧ cs.size = n * size := by
  obtain ⟨_, h2⟩ := h
  rcases h2 with ⟨h2, _⟩ | ⟨g', cap, cur, hv, _, hh, _, _, hs, _⟩
  · cases h2
  · injection hv with ha hn hc
    injection ha with ha
    injection ha with ha
    subst ha
    subst hc
    exact ⟨cur, hh, hs⟩

theorem Tryd.infoFrac : (Tryd.prog.info? 25).map (fun i => (i.zero, i.size, i.bytes)) = some (some (.agg #[.int .i64 0, .int .i64 0]), 2, 16) := by kernel_rfl

/-- What is left of a size. -/
def szZ (left : Int) (len : Nat) : Int := if left < len then -1 else left - len
theorem szFracS_any (x : Option Addr) (len cap : Nat) (left : Int) (w : World) (hl : 0 ≤ left) (h : left ≤ 1048576) (hm : len ≤ 9223372036854775807) :
    Calls Tryd.prog 6 #[.slice x len cap, .int .i64 left] w fun e w' => e = .returned (.int .i64 (szZ left len)) ∧ w = w' := by
  by_cases k : left < len
  · rw [show szZ left len = -1 from if_pos k]
    go_enter Tryd.func6, Tryd.ntmps6
    go_wp2
    go_ret
    exact ⟨rfl, rfl⟩
  · rw [show szZ left len = left - len from if_neg k]
    go_enter Tryd.func6, Tryd.ntmps6
    go_wp2
    go_ret
    exact ⟨rfl, rfl⟩

set_option maxHeartbeats 2000000 in
theorem toFracS_any (x : Option Addr) (cap : Nat) (L : List (Int × Int)) (w : World) (hm : L.length ≤ 1048576) (hL : FrRd w x L) :
    Calls Tryd.prog 8 #[.slice x L.length cap] w fun e w' => e = .returned (.slice (some ⟨w.heap.size, 0, none⟩) L.length L.length) ∧ FrRd w' (some ⟨w.heap.size, 0, none⟩) L ∧ Below w.heap.size w w' := by
  obtain ⟨i0, hi, hz0, hz1, hz2⟩ := info_parts Tryd.infoFrac
  have hbb : i0.bytes * L.length ≤ 281474976710656 := by rw [hz2]; omega
  have hmm : L.length ≤ maxLen := by unfold maxLen; omega
  go_enter Tryd.func8, Tryd.ntmps8
  go_wp2_with (at_make; go_loud (refine wpList_make_full _ rfl _ _ 28 rfl w.heap.size 25 i0 (.agg #[.int .i64 0, .int .i64 0]) 2 Tryd.underlying28 hi hz0 hz1 .i64 .i64 _ _ L.length rfl rfl rfl rfl hbb hmm (Nat.le_refl _) (fun w1 hown hgrow => ?_)))
  obtain ⟨cs, hcs, hsz⟩ := WB.of_own hown
  have hb1 : Below w.heap.size w w1 := (Below.refl _ _).grown hgrow (Nat.le_refl _) (by intro k hk; cases hk)
  clear hown hgrow hi hz0 hz1 hz2
  go_loopw [4] (fun c wr => ∃ (i : Nat) (cs : Array Value), i ≤ L.length ∧ c = .int .i64 i ∧ WB wr w.heap.size 25 cs ∧ cs.size = L.length * 2 ∧ Hid (∀ j n d, j < i → L[j]? = some (n, d) → cs[j * 2]? = some (.int .i64 n) ∧ cs[j * 2 + 1]? = some (.int .i64 d)) ∧ Below w.heap.size w wr) (fun c _ => L.length - (intOf c).toNat)
  case atStart => exact ⟨0, cs, by omega, rfl, hcs, hsz, (fun j n d hj => absurd hj (by omega)), hb1⟩
  case round =>
    clear hcs hsz hb1 cs
    obtain ⟨i, cs, hi, rfl, hcs, hsz, hdone, hb⟩ := hrel
    by_cases hlt : i < L.length
    · rcases hL.below hb with hnil | ⟨bl, off, rfl, hbl, hcell⟩
      · rw [hnil] at hlt; simp at hlt
      obtain ⟨n, d, hnd⟩ : ∃ n d, L[i]? = some (n, d) := ⟨L[i].1, L[i].2, by simp [hlt]⟩
      obtain ⟨hc0, hc1⟩ := hcell i n d hnd
      clear hcell
      have hlt' : (i : Int) < (L.length : Int) := by omega
      have hnd := Lib.hid hnd
      have hsz := Lib.hid hsz
      have k0 := (hcs.read (i * 2)).trans (Array.getElem?_eq_getElem (by rw [hsz.out]; omega))
      have k1 := (hcs.read (i * 2 + 1)).trans (Array.getElem?_eq_getElem (by rw [hsz.out]; omega))
      have k2 := hcs.free (i * 2)
      have k3 := hcs.free (i * 2 + 1)
      have k4 := hcs.inside
      go_wp2_with (go_at_call 13; refine (toFrac_any _ _ _).mono ?_; rintro e w2 ⟨rfl, hb2⟩; obtain ⟨hcl2, hfr2⟩ := bcell hb2; have hz2 := hb2.size; (try simp at hz2); (try (have hly2 := Nat.lt_of_succ_le hz2)); (try (have hlx2 := Nat.lt_of_succ_lt hly2)); (try (have hlw2 := Nat.lt_of_succ_lt hlx2)); (try (have hle2 := Nat.le_of_lt hly2)); (try (have hya2 : w.heap.size < w2.heap.size := by omega)); (try (have hyb2 : w.heap.size + 1 < w2.heap.size := by omega)); (try (have hyc2 : w.heap.size + 1 + 1 < w2.heap.size := by omega)); (try (have hyd2 : wa.heap.size < w2.heap.size := by omega)))
      go_roundw
      case rel =>
        refine ⟨i + 1, _, by omega, by go_num, ((hcs.kept hb2).put (i * 2) (.int .i64 n)).put (i * 2 + 1) (.int .i64 d), by simpa using hsz.out, ?_, (by repeat (first | exact Below.refl _ _ | assumption | refine Below.drew ?_ | refine below_drewN ?_ _ | refine Below.alloc' ?_ _ | (refine Below.setCell ?_ (by first | omega | (simp; done) | (simp; omega) | exact Below.size (by assumption) | exact Nat.le_trans (Below.size (by assumption)) (by simp)) _) | (refine Below.via' ?_ (by assumption)) | (refine Below.alloc ?_ (by first | omega | (simp; done) | (simp; omega) | exact Below.size (by assumption) | exact Nat.le_trans (Below.size (by assumption)) (by simp)) _) | (refine Below.via ?_ (by assumption) (by first | omega | (simp; done) | (simp; omega) | exact Below.size (by assumption) | exact Nat.le_trans (Below.size (by assumption)) (by simp)))))⟩
        intro j n' d' hj hjl
        rcases Nat.lt_or_ge j i with hji | hji
        · obtain ⟨q1, q2⟩ := hdone.out j n' d' hji hjl
          constructor
          · rw [Array.getElem?_setIfInBounds_ne (by omega), Array.getElem?_setIfInBounds_ne (by omega)]; exact q1
          · rw [Array.getElem?_setIfInBounds_ne (by omega), Array.getElem?_setIfInBounds_ne (by omega)]; exact q2
        · obtain rfl : j = i := by omega
          have e := hnd.out.symm.trans hjl
          simp only [Option.some.injEq, Prod.mk.injEq] at e
          obtain ⟨rfl, rfl⟩ := e
          have z := hsz.out
          constructor
          · rw [Array.getElem?_setIfInBounds_ne (by omega), Array.getElem?_setIfInBounds_self_of_lt (by omega)]
          · rw [Array.getElem?_setIfInBounds_self_of_lt (by simp; omega)]
      case measure => simp [intOf]; omega
    · have hij : i = L.length := by omega
      subst hij
      have hR : FrRd wr (some ⟨w.heap.size, 0, none⟩) L := Or.inr ⟨w.heap.size, 0, rfl, hcs.inside, fun j n d hj => by
        have hjl : j < L.length := (List.getElem?_eq_some_iff.1 hj).1
        obtain ⟨q1, q2⟩ := hdone.out j n d hjl hj
        rw [Nat.zero_add, hcs.read, hcs.read]
        exact ⟨q1, q2⟩⟩
      have hR := Lib.hid hR
      clear hL hcs hsz
      go_wp2
      go_ret
      exact ⟨rfl, hR.out, hb⟩

set_option maxHeartbeats 1000000 in
theorem eqFracS_any (x y : Option Addr) (c1 c2 : Nat) (L : List (Int × Int)) (w : World) (hm : L.length ≤ 1048576) (hx : FrRd w x L) (hy : FrRd w y L) :
    Calls Tryd.prog 11 #[.slice x L.length c1, .slice y L.length c2] w fun e w' => e = .returned (.bool true) ∧ Below w.heap.size w w' := by
  go_enter Tryd.func11, Tryd.ntmps11
  go_wp2
  go_loopw [5] (fun c wr => ∃ i : Nat, i ≤ L.length ∧ c = .int .i64 i ∧ Below w.heap.size w wr) (fun c _ => L.length - (intOf c).toNat)
  case atStart => exact ⟨0, by omega, rfl, Below.refl _ _⟩
  case round =>
    obtain ⟨i, hi, rfl, hb⟩ := hrel
    by_cases hlt : i < L.length
    · rcases hx.below hb with hnil | ⟨bl, off, rfl, hbl, hcell⟩
      · rw [hnil] at hlt; simp at hlt
      rcases hy.below hb with hnil | ⟨bl2, off2, rfl, hbl2, hcell2⟩
      · rw [hnil] at hlt; simp at hlt
      obtain ⟨n, d, hnd⟩ : ∃ n d, L[i]? = some (n, d) := ⟨L[i].1, L[i].2, by simp [hlt]⟩
      obtain ⟨hc0, hc1⟩ := hcell i n d hnd
      obtain ⟨hc2, hc3⟩ := hcell2 i n d hnd
      clear hcell hcell2 hx hy hnd
      have hlt' : (i : Int) < (L.length : Int) := by omega
      have hi0 : (0 : Int) ≤ (i : Int) := by omega
      go_wp2
      go_region_held3 (fun w' => Below (wr).heap.size (wr) w' ∧ (∀ b o, b < (wr).heap.size → w'.cell? ⟨b, o, none⟩ = (wr).cell? ⟨b, o, none⟩)) (first | exact keep_of (Below.refl _ _) | ((try go_split_ands); exact keep_of (by repeat (first | exact Below.refl _ _ | assumption | refine Below.drew ?_ | refine below_drewN ?_ _ | refine Below.alloc' ?_ _ | (refine Below.setCell ?_ (by first | omega | (simp; done) | (simp; omega) | exact Below.size (by assumption) | exact Nat.le_trans (Below.size (by assumption)) (by simp)) _) | (refine Below.via' ?_ (by assumption)) | (refine Below.alloc ?_ (by first | omega | (simp; done) | (simp; omega) | exact Below.size (by assumption) | exact Nat.le_trans (Below.size (by assumption)) (by simp)) _) | (refine Below.via ?_ (by assumption) (by first | omega | (simp; done) | (simp; omega) | exact Below.size (by assumption) | exact Nat.le_trans (Below.size (by assumption)) (by simp))))))) (first | (go_at_call 10; refine (eqFrac_any _ _ _ _ _).mono ?_; rintro e w2 ⟨rfl, hb2⟩)); rename_i hH; obtain ⟨hb2, hcl2⟩ := hH; have hz2 := hb2.size; (try simp at hz2); (try (have hly2 := Nat.lt_of_succ_le hz2)); (try (have hlx2 := Nat.lt_of_succ_lt hly2)); (try (have hlw2 := Nat.lt_of_succ_lt hlx2)); (try (have hle2 := Nat.le_of_lt hly2)); (try (have hya2 : w.heap.size < w2.heap.size := by omega)); (try (have hyb2 : w.heap.size + 1 < w2.heap.size := by omega)); (try (have hyc2 : w.heap.size + 1 + 1 < w2.heap.size := by omega)); (try (have hyd2 : wa.heap.size < w2.heap.size := by omega))
      go_wp2
      go_roundw
      case rel => exact ⟨i + 1, by omega, by go_num, (by repeat (first | exact Below.refl _ _ | assumption | refine Below.drew ?_ | refine below_drewN ?_ _ | refine Below.alloc' ?_ _ | (refine Below.setCell ?_ (by first | omega | (simp; done) | (simp; omega) | exact Below.size (by assumption) | exact Nat.le_trans (Below.size (by assumption)) (by simp)) _) | (refine Below.via' ?_ (by assumption)) | (refine Below.alloc ?_ (by first | omega | (simp; done) | (simp; omega) | exact Below.size (by assumption) | exact Nat.le_trans (Below.size (by assumption)) (by simp)) _) | (refine Below.via ?_ (by assumption) (by first | omega | (simp; done) | (simp; omega) | exact Below.size (by assumption) | exact Nat.le_trans (Below.size (by assumption)) (by simp)))))⟩
      case measure => simp [intOf]; omega
    · have hij : i = L.length := by omega
      subst hij
      go_wp2
      go_ret
      exact ⟨rfl, hb⟩

theorem sSum_x (x : Option Addr) (cap : Nat) (L : List (Int × Int)) (w : World) (hm : L.length ≤ 1048576) (hL : FrRd w x L) :
    Calls Tryd.prog 7 #[.slice x L.length cap] w fun e w' => e = .returned (.tuple #[.agg #[.int .i64 (smN L), .int .i64 (smD L)], .bool (smB L)]) ∧ Below w.heap.size w w' := sSum_any x cap L w (by omega) hL
theorem iSum_x (x : Option Addr) (cap : Nat) (L : List (Int × Int)) (w : World) (hm : L.length ≤ 1048576) (hT : Tab w) (hL : FrRd w x L) :
    Calls Tryd.prog 9 #[.slice x L.length cap] w fun e w' => e = .returned (.tuple #[.agg #[.int .i64 (smN L), .int .i64 (smD L)], .bool (smB L)]) ∧ Below w.heap.size w w' := iSum_any x cap L w (by omega) hT hL
end Go.Proofs.YtkjgccdgihkkoabDoor
