/-
  The laws' helpers on lists of integers: the size, a copy, a comparison, marks and their test.
-/
import Derived.Test.YtgkaalonmkcclabRd
import Derived.Test.YtgkaalonmkcclabRows
import Derived.Outline
namespace Go.Proofs.Ytgkaalonmkcclab
open Go.RowKit
set_option maxRecDepth 100000

theorem below_drewN {B : Nat} {a w : World} (h : Below B a w) (n : Nat) : Below B a (w.drewN n) := ⟨h.os, h.tape, h.output, h.size, h.block⟩
theorem Try.infoInt : (Try.prog.info? 3).map (fun i => (i.zero, i.size, i.bytes)) = some (some (.int .i64 0), 1, 8) := by kernel_rfl

/-- A cell of a row that the call owns. -/
theorem own_cell {w : World} {base e size g cap n : Nat} {xs : List Value} (h : w.ownsRow base e size (.slice (some ⟨g, 0, none⟩) n cap) n xs) {j : Nat} (hj : j < n * size) :
    ∃ u, xs[j]? = some u ∧ w.cell? ⟨g, j, none⟩ = some u := by
  have hl : j < xs.length := by rw [h.1]; exact hj
  exact ⟨xs[j], List.getElem?_eq_getElem hl, by rw [h.cellAt j hj]; exact List.getElem?_eq_getElem hl⟩
theorem own_lt {w : World} {base e size g cap n : Nat} {xs : List Value} (h : w.ownsRow base e size (.slice (some ⟨g, 0, none⟩) n cap) n xs) : base ≤ g ∧ g < w.heap.size := h.lt g rfl
theorem own_below {w w' : World} {base e size n : Nat} {v : Value} {xs : List Value} (h : w.ownsRow base e size v n xs) (hb : Below w.heap.size w w') : w'.ownsRow base e size v n xs :=
  h.kept (row := none) ⟨hb.os, hb.tape, hb.output, hb.size, fun k hk _ => hb.block k hk⟩ (by cases v.ownBlock <;> simp)
theorem own_more {w : World} {base base' e size n : Nat} {v : Value} {xs : List Value} (h : w.ownsRow base e size v n xs) (hb : base' ≤ base) : w.ownsRow base' e size v n xs := by
  obtain ⟨h1, h2⟩ := h
  refine ⟨h1, ?_⟩
  rcases h2 with h2 | ⟨g, cap, cur, a, b, r⟩
  · exact Or.inl h2
  · exact Or.inr ⟨g, cap, cur, a, by omega, r⟩

/-- What is left of a size. -/
def szZ (left : Int) (len : Nat) : Int := if left < len then -1 else left - len
theorem szIntS_any (x : Option Addr) (len cap : Nat) (left : Int) (w : World) (hl : 0 ≤ left) (h : left ≤ 1048576) (hm : len ≤ 9223372036854775807) :
    Calls Try.prog 95 #[.slice x len cap, .int .i64 left] w fun e w' => e = .returned (.int .i64 (szZ left len)) ∧ w = w' := by
  by_cases k : left < len
  · rw [show szZ left len = -1 from if_pos k]
    go_enter Try.func95, Try.ntmps95
    go_wp2
    go_ret
    exact ⟨rfl, rfl⟩
  · rw [show szZ left len = left - len from if_neg k]
    go_enter Try.func95, Try.ntmps95
    go_wp2
    go_ret
    exact ⟨rfl, rfl⟩

set_option maxHeartbeats 1000000 in
theorem toIntS_any (x : Option Addr) (cap : Nat) (L : List Int) (w : World) (hm : L.length ≤ 1048576) (hL : Rd w x (iC L)) :
    Calls Try.prog 12 #[.slice x L.length cap] w fun e w' => e = .returned (.slice (some ⟨w.heap.size, 0, none⟩) L.length L.length) ∧ w'.ownsRow w.heap.size 3 1 (.slice (some ⟨w.heap.size, 0, none⟩) L.length L.length) L.length (iC L) ∧ Below w.heap.size w w' := by
  obtain ⟨i0, hi, hz0, hz1, hz2⟩ := info_parts Try.infoInt
  have hbb : i0.bytes * L.length ≤ 281474976710656 := by rw [hz2]; omega
  have hmm : L.length ≤ maxLen := by unfold maxLen; omega
  go_enter Try.func12, Try.ntmps12
  go_wp2_with (at_make; go_loud (refine wpList_make_full _ rfl _ _ 24 rfl w.heap.size 3 i0 (.int .i64 0) 1 Try.underlying24 hi hz0 hz1 .i64 .i64 _ _ L.length rfl rfl rfl rfl hbb hmm (Nat.le_refl _) (fun w1 hown hgrow => ?_)))
  have hb1 : Below w.heap.size w w1 := (Below.refl _ _).grown hgrow (Nat.le_refl _) (by intro k hk; cases hk)
  clear hgrow hi hz0 hz1 hz2
  go_loopw [4] (fun c wr => ∃ (i : Nat) (xs : List Value), i ≤ L.length ∧ c = .int .i64 i ∧ wr.ownsRow w.heap.size 3 1 (.slice (some ⟨w.heap.size, 0, none⟩) L.length L.length) L.length xs ∧ Hid (∀ j, j < i → xs[j]? = (iC L)[j]?) ∧ Below w.heap.size w wr) (fun c _ => L.length - (intOf c).toNat)
  case atStart => exact ⟨0, _, by omega, rfl, hown, (fun j hj => absurd hj (by omega)), hb1⟩
  case round =>
    clear hown hb1
    obtain ⟨i, xs, hi, rfl, hown, hdone, hb⟩ := hrel
    by_cases hlt : i < L.length
    · obtain ⟨bl, off, v, rfl, hbl, hLv, hc0⟩ := (hL.below hb).int hlt
      obtain ⟨u, hu, k0⟩ := own_cell hown (j := i) (by omega)
      have k2 := hown.frozenAt i
      have k4 := (own_lt hown).2
      have hu := Lib.hid hu
      have hLv := Lib.hid hLv
      have hlt' : (i : Int) < (L.length : Int) := by omega
      clear hL
      go_wp2
      go_roundw
      case rel =>
        refine ⟨i + 1, _, by omega, by go_num, (hown.stored i (.int .i64 v)).1, ?_, (by repeat (first | exact Below.refl _ _ | assumption | refine Below.drew ?_ | refine below_drewN ?_ _ | refine Below.alloc' ?_ _ | (refine Below.setCell ?_ (by first | omega | (simp; done) | (simp; omega) | exact Below.size (by assumption) | exact Nat.le_trans (Below.size (by assumption)) (by simp)) _) | (refine Below.via' ?_ (by assumption)) | (refine Below.alloc ?_ (by first | omega | (simp; done) | (simp; omega) | exact Below.size (by assumption) | exact Nat.le_trans (Below.size (by assumption)) (by simp)) _) | (refine Below.via ?_ (by assumption) (by first | omega | (simp; done) | (simp; omega) | exact Below.size (by assumption) | exact Nat.le_trans (Below.size (by assumption)) (by simp)))))⟩
        intro j hj
        rw [List.getElem?_set]
        have hlen : xs.length = L.length := by rw [hown.1]; omega
        split
        · subst_vars
          rw [if_pos (by omega), iC_at hLv.out]
        · exact hdone.out j (by omega)
      case measure => simp [intOf]; omega
    · have hij : i = L.length := by omega
      subst hij
      have hxs : xs = iC L := by
        have hlen : xs.length = L.length := by rw [hown.1]; omega
        apply List.ext_getElem?
        intro j
        rcases Nat.lt_or_ge j L.length with hj | hj
        · exact hdone.out j hj
        · rw [List.getElem?_eq_none (by omega), List.getElem?_eq_none (by rw [iC_len]; omega)]
      subst hxs
      have hown := Lib.hid hown
      clear hL hdone
      go_wp2
      go_ret
      exact ⟨rfl, hown.out, hb⟩

set_option maxHeartbeats 1000000 in
theorem eqIntS_any (x y : Option Addr) (c1 c2 : Nat) (L : List Int) (w : World) (hm : L.length ≤ 9223372036854775807) (hx : Rd w x (iC L)) (hy : Rd w y (iC L)) :
    Calls Try.prog 16 #[.slice x L.length c1, .slice y L.length c2] w fun e w' => e = .returned (.bool true) ∧ Below w.heap.size w w' := by
  go_enter Try.func16, Try.ntmps16
  go_wp2
  go_loopw [5] (fun c wr => ∃ i : Nat, i ≤ L.length ∧ c = .int .i64 i ∧ Below w.heap.size w wr) (fun c _ => L.length - (intOf c).toNat)
  case atStart => exact ⟨0, by omega, rfl, Below.refl _ _⟩
  case round =>
    obtain ⟨i, hi, rfl, hb⟩ := hrel
    by_cases hlt : i < L.length
    · obtain ⟨bl, off, v, rfl, hbl, hLv, hc0⟩ := (hx.below hb).int hlt
      obtain ⟨bl2, off2, v2, rfl, hbl2, hLv2, hc2⟩ := (hy.below hb).int hlt
      have e : v2 = v := Option.some.inj (hLv2.symm.trans hLv)
      subst e
      clear hx hy hLv hLv2
      have hlt' : (i : Int) < (L.length : Int) := by omega
      have hi0 : (0 : Int) ≤ (i : Int) := by omega
      go_wp2
      go_quiet (fail)
      go_wp2
      go_roundw
      case rel => exact ⟨i + 1, by omega, by go_num, (by repeat (first | exact Below.refl _ _ | assumption | refine Below.drew ?_ | refine below_drewN ?_ _ | refine Below.alloc' ?_ _ | (refine Below.setCell ?_ (by first | omega | (simp; done) | (simp; omega) | exact Below.size (by assumption) | exact Nat.le_trans (Below.size (by assumption)) (by simp)) _) | (refine Below.via' ?_ (by assumption)) | (refine Below.alloc ?_ (by first | omega | (simp; done) | (simp; omega) | exact Below.size (by assumption) | exact Nat.le_trans (Below.size (by assumption)) (by simp)) _) | (refine Below.via ?_ (by assumption) (by first | omega | (simp; done) | (simp; omega) | exact Below.size (by assumption) | exact Nat.le_trans (Below.size (by assumption)) (by simp)))))⟩
      case measure => simp [intOf]; omega
    · have hij : i = L.length := by omega
      subst hij
      clear hx hy
      go_wp2
      go_ret
      exact ⟨rfl, hb⟩

/-- The marks that are laid into n cells, from k on. -/
def mkL (k : Int) (n : Nat) : List Int := (List.range n).map fun i : Nat => k + (i : Int)
theorem mkL_len (k : Int) (n : Nat) : (mkL k n).length = n := by unfold mkL; simp
theorem mkL_at (k : Int) {n i : Nat} (h : i < n) : (mkL k n)[i]? = some (k + i) := by unfold mkL; simp [h]

set_option maxHeartbeats 1000000 in
theorem markIntS_any (x : Option Addr) (n cap : Nat) (k : Int) (base : Nat) (xs : List Value) (w : World) (hk : 0 ≤ k) (hk2 : k ≤ 1000000000000) (hn : n ≤ 1048576) (hown : w.ownsRow base 3 1 (.slice x n cap) n xs) :
    Calls Try.prog 108 #[.slice x n cap, .int .i64 k] w fun e w' => e = .returned (.int .i64 (k + n)) ∧ w'.ownsRow base 3 1 (.slice x n cap) n (iC (mkL k n)) ∧ w.grownBy w' (Value.slice x n cap).ownBlock := by
  by_cases h0 : n = 0
  · subst h0
    have hxs : xs = iC (mkL k 0) := by
      have := hown.1
      simp at this
      subst this
      rfl
    subst hxs
    have hown := Lib.hid hown
    go_enter Try.func108, Try.ntmps108
    go_wp2
    refine wp_loop_rounds 1 ?_
    rw [rounds_succ]
    go_wp2
    go_ret
    exact ⟨ret_int (by omega), hown.out, World.grownBy.refl _ _⟩
  obtain ⟨g, rfl⟩ : ∃ g, x = some ⟨g, 0, none⟩ := by
    rcases hown.2 with ⟨h1, h2⟩ | ⟨g, c, cur, hv, _⟩
    · exact absurd h2 h0
    · injection hv with hx _ _
      exact ⟨g, hx⟩
  have hown0 := Lib.hid hown
  clear hown
  go_enter Try.func108, Try.ntmps108
  go_wp2
  go_loopw [1, 5] (fun q c wr => ∃ (i : Nat) (ys : List Value), i ≤ n ∧ c = .int .i64 i ∧ q = .int .i64 (k + i) ∧ wr.ownsRow base 3 1 (.slice (some ⟨g, 0, none⟩) n cap) n ys ∧ Hid (∀ j, j < i → ys[j]? = (iC (mkL k n))[j]?) ∧ w.grownBy wr (some g)) (fun _ c _ => n - (intOf c).toNat)
  case atStart => exact ⟨0, _, by omega, rfl, by go_num, hown0.out, (fun j hj => absurd hj (by omega)), World.grownBy.refl _ _⟩
  case round =>
    clear hown0
    obtain ⟨i, ys, hi, rfl, rfl, hown, hdone, hb⟩ := hrel
    by_cases hlt : i < n
    · obtain ⟨u, hu, k0⟩ := own_cell hown (j := i) (by omega)
      have k2 := hown.frozenAt i
      have k4 := (own_lt hown).2
      have hu := Lib.hid hu
      have hlt' : (i : Int) < (n : Int) := by omega
      go_wp2
      go_roundw
      case rel =>
        refine ⟨i + 1, _, by omega, by go_num, by go_num, (hown.stored i (.int .i64 (k + i))).1, ?_, hb.trans (hown.stored i (.int .i64 (k + i))).2⟩
        intro j hj
        rw [List.getElem?_set]
        have hlen : ys.length = n := by rw [hown.1]; omega
        split
        · subst_vars
          rw [if_pos (by omega), iC_at (mkL_at k hlt)]
        · exact hdone.out j (by omega)
      case measure => simp [intOf]; omega
    · have hij : i = n := by omega
      subst hij
      have hys : ys = iC (mkL k i) := by
        have hlen : ys.length = i := by rw [hown.1]; omega
        apply List.ext_getElem?
        intro j
        rcases Nat.lt_or_ge j i with hj | hj
        · exact hdone.out j hj
        · rw [List.getElem?_eq_none (by omega), List.getElem?_eq_none (by rw [iC_len, mkL_len]; omega)]
      subst hys
      have hown := Lib.hid hown
      clear hdone
      go_wp2
      go_ret
      exact ⟨rfl, hown.out, hb⟩

set_option maxHeartbeats 1000000 in
theorem heldIntS_any (x : Option Addr) (n cap : Nat) (k : Int) (w : World) (hk : 0 ≤ k) (hk2 : k ≤ 1000000000000) (hn : n ≤ 1048576) (hx : Rd w x (iC (mkL k n))) :
    Calls Try.prog 110 #[.slice x n cap, .int .i64 k] w fun e w' => e = .returned (.int .i64 (k + n)) ∧ w = w' := by
  go_enter Try.func110, Try.ntmps110
  go_wp2
  go_loop [1, 5] (fun q c => ∃ i : Nat, i ≤ n ∧ c = .int .i64 i ∧ q = .int .i64 (k + i)) (fun _ c => n - (intOf c).toNat)
  case atStart => exact ⟨0, by omega, rfl, by go_num⟩
  case round =>
    obtain ⟨i, hi, rfl, rfl⟩ := hrel
    by_cases hlt : i < n
    · obtain ⟨bl, off, v, rfl, hbl, hLv, hc0⟩ := hx.int (i := i) (by rw [mkL_len]; exact hlt)
      have e : v = k + i := Option.some.inj (hLv.symm.trans (mkL_at k hlt))
      subst e
      clear hx hLv
      have hlt' : (i : Int) < (n : Int) := by omega
      go_wp2
      go_round
      case rel => exact ⟨i + 1, by omega, by go_num, by go_num⟩
      case measure => simp [intOf]; omega
    · have hij : i = n := by omega
      subst hij
      clear hx
      go_wp2
      go_ret
      exact ⟨rfl, rfl⟩

/-- Block g holds just these cells, and all of them may be written. -/
def Wb (w : World) (g : Nat) (t : TypeId) (cs : Array Value) : Prop := w.heap[g]? = some (.cells cs t (0, 0))
theorem Wb.inside {w : World} {g : Nat} {t : TypeId} {cs : Array Value} (h : Wb w g t cs) : g < w.heap.size := by
  rcases Nat.lt_or_ge g w.heap.size with k | k
  · exact k
  · unfold Wb at h
    rw [Array.getElem?_eq_none k] at h
    cases h
theorem Wb.read {w : World} {g : Nat} {t : TypeId} {cs : Array Value} (h : Wb w g t cs) (j : Nat) : w.cell? ⟨g, j, none⟩ = cs[j]? := by
  unfold Wb at h
  simp [World.cell?, h]
theorem Wb.free {w : World} {g : Nat} {t : TypeId} {cs : Array Value} (h : Wb w g t cs) (j : Nat) : w.frozen? ⟨g, j, none⟩ = false := by
  unfold Wb at h
  simp [World.frozen?, h]
theorem Wb.kept {w w' : World} {g : Nat} {t : TypeId} {cs : Array Value} (h : Wb w g t cs) (hb : Below w.heap.size w w') : Wb w' g t cs := (hb.block g h.inside).trans h
theorem Wb.put {w : World} {g : Nat} {t : TypeId} {cs : Array Value} (h : Wb w g t cs) (j : Nat) (u : Value) : Wb (w.setCell ⟨g, j, none⟩ u) g t (cs.setIfInBounds j u) := by
  unfold Wb at h ⊢
  simp [World.setCell, Array.getElem?_modify, h]
theorem Wb.new (w : World) (t : TypeId) (cs : Array Value) : Wb (w.alloc (.cells cs t)) w.heap.size t cs := heap_alloc_new w _
theorem iC_one (L : List Int) : ∀ u ∈ iC L, u.oneCell' = true := by
  intro u hu
  unfold iC at hu
  obtain ⟨n, _, rfl⟩ := List.mem_map.1 hu
  rfl
theorem vC_one : ∀ S : List (ByteArray × Int), ∀ u ∈ vC S, u.oneCell' = true
  | [], u, hu => by cases hu
  | p :: r, u, hu => by
    simp only [vC, List.mem_cons] at hu
    rcases hu with rfl | rfl | hu
    · rfl
    · rfl
    · exact vC_one r u hu
end Go.Proofs.Ytgkaalonmkcclab
