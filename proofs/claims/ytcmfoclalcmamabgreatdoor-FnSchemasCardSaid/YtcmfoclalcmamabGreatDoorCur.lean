/-
  The model's draws: numbers out of bytes. What a draw gives is only said to lie in its range; of memory only the cursor's block is written.
-/
import Derived.Test.YtcmfoclalcmamabGreatDoorFrac
import Derived.Test.YtcmfoclalcmamabGreatDoorRows
namespace Go.Proofs.YtcmfoclalcmamabGreatDoor
open Go.RowKit
set_option maxRecDepth 100000

/-- A slice of n bytes that can be read. -/
def ByRd (w : World) (x : Option Addr) (n : Nat) : Prop :=
  n = 0 ∨ ∃ c off, x = some ⟨c, off, none⟩ ∧ c < w.heap.size ∧ ∀ i, i < n → ∃ v : Int, 0 ≤ v ∧ v ≤ 255 ∧ w.cell? ⟨c, off + i, none⟩ = some (.int .u8 v)
/-- The cursor in block b: its bytes, its position, some seed. -/
def CurAt (w : World) (b : Nat) (x : Option Addr) (n cap k : Nat) : Prop :=
  ∃ s : Int, w.cell? ⟨b, 0, none⟩ = some (.slice x n cap) ∧ w.cell? ⟨b, 1, none⟩ = some (.int .i64 k) ∧ w.cell? ⟨b, 2, none⟩ = some (.int .u64 s) ∧
    w.frozen? ⟨b, 1, none⟩ = false ∧ w.frozen? ⟨b, 2, none⟩ = false ∧ b < w.heap.size ∧ (0 < n → ∀ c off, x = some ⟨c, off, none⟩ → c ≠ b)
def NextPost (b : Nat) (x : Option Addr) (n cap k m : Nat) (w : World) (e : Ending) (w' : World) : Prop :=
  ∃ v : Int, e = .returned (.int .i64 v) ∧ 0 ≤ v ∧ v < m ∧ CurAt w' b x n cap k ∧ w.grownBy w' (some b)

theorem cur_step {w : World} {b : Nat} {x : Option Addr} {n cap k : Nat} (hC : CurAt w b x n cap k) (p q : Nat) (u : Int) :
    CurAt ((((w.drewN p).setCell ⟨b, 1, none⟩ (.int .i64 ((k : Int) + 1))).setCell ⟨b, 2, none⟩ (.int .u64 u)).drewN q) b x n cap (k + 1) ∧
      w.grownBy ((((w.drewN p).setCell ⟨b, 1, none⟩ (.int .i64 ((k : Int) + 1))).setCell ⟨b, 2, none⟩ (.int .u64 u)).drewN q) (some b) := by
  obtain ⟨s, c0, c1, c2, f1, f2, hb, hne⟩ := hC
  have d1 : (w.drewN p).cell? ⟨b, 1, none⟩ = some (.int .i64 k) := c1
  have d2 : (w.drewN p).cell? ⟨b, 2, none⟩ = some (.int .u64 s) := c2
  have d0 : (w.drewN p).cell? ⟨b, 0, none⟩ = some (.slice x n cap) := c0
  have e2 : ((w.drewN p).setCell ⟨b, 1, none⟩ (.int .i64 ((k : Int) + 1))).cell? ⟨b, 2, none⟩ = some (.int .u64 s) := by
    rw [World.cell?_setCell_other _ _ _ _ (by simp)]; exact d2
  constructor
  · refine ⟨u, ?_, ?_, ?_, ?_, ?_, ?_, hne⟩
    · show World.cell? _ _ = _
      rw [show ∀ W : World, (W.drewN q).cell? ⟨b, 0, none⟩ = W.cell? ⟨b, 0, none⟩ from fun W => rfl, World.cell?_setCell_other _ _ _ _ (by simp), World.cell?_setCell_other _ _ _ _ (by simp)]
      exact d0
    · rw [show ∀ W : World, (W.drewN q).cell? ⟨b, 1, none⟩ = W.cell? ⟨b, 1, none⟩ from fun W => rfl, World.cell?_setCell_other _ _ _ _ (by simp)]
      rw [World.cell?_setCell_same _ _ _ d1]
      rfl
    · rw [show ∀ W : World, (W.drewN q).cell? ⟨b, 2, none⟩ = W.cell? ⟨b, 2, none⟩ from fun W => rfl]
      exact World.cell?_setCell_same _ _ _ e2
    · rw [show ∀ W : World, (W.drewN q).frozen? ⟨b, 1, none⟩ = W.frozen? ⟨b, 1, none⟩ from fun W => rfl, World.frozen?_setCell, World.frozen?_setCell]
      exact f1
    · rw [show ∀ W : World, (W.drewN q).frozen? ⟨b, 2, none⟩ = W.frozen? ⟨b, 2, none⟩ from fun W => rfl, World.frozen?_setCell, World.frozen?_setCell]
      exact f2
    · show b < Array.size _
      simpa [World.setCell, World.drewN] using hb
  · refine ⟨rfl, rfl, rfl, ?_, ?_⟩
    · show w.heap.size ≤ Array.size _
      simp [World.setCell, World.drewN]
    · intro j _ hj
      have hjb : j ≠ b := fun e => hj (by rw [e])
      show (((w.drewN p).setCell ⟨b, 1, none⟩ (.int .i64 ((k : Int) + 1))).setCell ⟨b, 2, none⟩ (.int .u64 u)).heap[j]? = w.heap[j]?
      rw [Below.heap_setCell _ _ _ _ hjb, Below.heap_setCell _ _ _ _ hjb]
      rfl

theorem and255 (X : Int) : 0 ≤ bits BinOp.and IntKind.u64 X 255 ∧ bits BinOp.and IntKind.u64 X 255 ≤ 255 := by
  have h : (BitVec.ofInt 64 X &&& BitVec.ofInt 64 255).toNat ≤ 255 := by
    rw [BitVec.toNat_and]
    exact Nat.le_trans Nat.and_le_right (by decide)
  have e : bits BinOp.and IntKind.u64 X 255 = IntKind.u64.wrap (((BitVec.ofInt 64 X &&& BitVec.ofInt 64 255).toNat : Nat) : Int) := rfl
  rw [e, IntWalk.u64_in _ (by omega)]
  omega
theorem and255_wrap (X : Int) : 0 ≤ wrap64 (bits BinOp.and IntKind.u64 X 255) ∧ wrap64 (bits BinOp.and IntKind.u64 X 255) < (256 : Nat) := by
  have h := and255 X
  rw [IntWalk.wrap64_in _ (by omega)]
  omega

set_option maxHeartbeats 1000000 in
theorem next_any (b : Nat) (x : Option Addr) (n cap k : Nat) (w : World) (hk : k ≤ 1000000000000) (hC : CurAt w b x n cap k) (hB : ByRd w x n) :
    Calls Tryz.prog 115 #[.pointer (some ⟨b, 0, none⟩)] w (NextPost b x n cap (k + 1) 256 w) := by
  have hC2 := Lib.hid hC
  obtain ⟨s, c0, c1, c2, f1, f2, hb, hne⟩ := hC
  have hk0 : (0 : Int) ≤ (k : Int) := by omega
  by_cases h : k < n
  · rcases hB with h0 | ⟨c, off, rfl, hc, hcell⟩
    · omega
    obtain ⟨v, v0, v1, hv⟩ := hcell k h
    have hcb := hne (by omega) c off rfl
    clear hcell hne
    have hlt : (k : Int) < (n : Int) := by omega
    go_enter Tryz.func115, Tryz.ntmps115
    go_wp2
    go_quiet (fail)
    go_wp2
    go_quiet (fail)
    go_wp2
    go_quiet (fail)
    go_wp2
    go_ret
    exact ⟨v, rfl, v0, (by omega : v < ((256 : Nat) : Int)), (cur_step hC2.out _ _ _).1, (cur_step hC2.out _ _ _).2⟩
  · clear hne hB
    have hge : (n : Int) ≤ (k : Int) := by omega
    go_enter Tryz.func115, Tryz.ntmps115
    go_wp2
    go_quiet (fail)
    go_wp2
    go_quiet (fail)
    go_wp2
    go_ret
    exact ⟨_, rfl, (and255_wrap _).1, (and255_wrap _).2, (cur_step hC2.out _ _ _).1, (cur_step hC2.out _ _ _).2⟩

/-- The cursor's bytes stay readable where the cursor alone is written. -/
theorem ByRd.grown {w w' : World} {x : Option Addr} {n b : Nat} (h : ByRd w x n) (hg : w.grownBy w' (some b)) (hne : 0 < n → ∀ c off, x = some ⟨c, off, none⟩ → c ≠ b) : ByRd w' x n := by
  rcases h with h | ⟨c, off, e, hc, hr⟩
  · exact Or.inl h
  rcases Nat.eq_zero_or_pos n with h0 | h0
  · exact Or.inl h0
  · refine Or.inr ⟨c, off, e, Nat.lt_of_lt_of_le hc hg.size, fun i hi => ?_⟩
    obtain ⟨v, v0, v1, hv⟩ := hr i hi
    refine ⟨v, v0, v1, (World.cell?_of_block (hg.block c hc (fun q => hne h0 c off e ?_))).trans hv⟩
    injection q
theorem CurAt.apart {w : World} {b : Nat} {x : Option Addr} {n cap k : Nat} (h : CurAt w b x n cap k) : 0 < n → ∀ c off, x = some ⟨c, off, none⟩ → c ≠ b := by
  obtain ⟨_, _, _, _, _, _, _, h⟩ := h
  exact h
theorem grown_trans {w w1 w2 : World} {b : Nat} (h : w.grownBy w1 (some b)) (k : w1.grownBy w2 (some b)) : w.grownBy w2 (some b) :=
  ⟨k.os.trans h.os, k.tape.trans h.tape, k.output.trans h.output, Nat.le_trans h.size k.size, fun j hj hne => (k.block j (Nat.lt_of_lt_of_le hj h.size) hne).trans (h.block j hj hne)⟩
theorem grown_refl (w : World) (r : Option Nat) : w.grownBy w r := ⟨rfl, rfl, rfl, Nat.le_refl _, fun _ _ _ => rfl⟩

/-- A number that pick gives, at a fixed m from 2 to 200 (one byte is read) or beyond (two bytes). -/
def PickPost (b : Nat) (x : Option Addr) (n cap k : Nat) (m : Int) (w : World) (e : Ending) (w' : World) : Prop :=
  ∃ (v : Int) (k' : Nat), e = .returned (.int .i64 v) ∧ 0 ≤ v ∧ v < m ∧ k ≤ k' ∧ k' ≤ k + 2 ∧ CurAt w' b x n cap k' ∧ w.grownBy w' (some b)
set_option maxHeartbeats 1000000 in
theorem pick_any (b : Nat) (x : Option Addr) (n cap k : Nat) (m : Int) (w : World) (hk : k + 2 ≤ 1000000000000) (hm : 1 ≤ m) (hm2 : m ≤ 1000000000) (hC : CurAt w b x n cap k) (hB : ByRd w x n) :
    Calls Tryz.prog 52 #[.pointer (some ⟨b, 0, none⟩), .int .i64 m] w (PickPost b x n cap k m w) := by
  have hC2 := Lib.hid hC
  have hB2 := Lib.hid hB
  clear hC hB
  by_cases h1 : m ≤ 1
  · go_enter Tryz.func52, Tryz.ntmps52
    go_wp2
    go_ret
    exact ⟨0, k, rfl, by omega, by omega, by omega, by omega, hC2.out, grown_refl _ _⟩
  by_cases h2 : m ≤ 200
  · go_enter Tryz.func52, Tryz.ntmps52
    go_wp2_with fail
    refine (next_any b x n cap k w (by omega) hC2.out hB2.out).mono ?_
    rintro e w1 ⟨v, rfl, v0, v1, hC3, hg⟩
    have hC3 := Lib.hid hC3
    have v1 : v < 256 := v1
    have hr0 := Int.emod_nonneg v (show m ≠ 0 by omega)
    have hr1 := Int.emod_lt_of_pos v (show 0 < m by omega)
    go_wp2
    go_ret
    exact ⟨v % m, k + 1, rfl, hr0, hr1, by omega, by omega, hC3.out, hg⟩
  · go_enter Tryz.func52, Tryz.ntmps52
    go_wp2_with fail
    refine (next_any b x n cap k w (by omega) hC2.out hB2.out).mono ?_
    rintro e w1 ⟨v, rfl, v0, v1, hC3, hg⟩
    have hB3 := Lib.hid (hB2.out.grown hg hC2.out.apart)
    have hC3 := Lib.hid hC3
    have v1 : v < 256 := v1
    go_wp2_with fail
    refine (next_any b x n cap (k + 1) w1 (by omega) hC3.out hB3.out).mono ?_
    rintro e w2 ⟨u, rfl, u0, u1, hC4, hg2⟩
    have hC4 := Lib.hid hC4
    have u1 : u < 256 := u1
    have hr0 := Int.emod_nonneg (v * 256 + u) (show m ≠ 0 by omega)
    have hr1 := Int.emod_lt_of_pos (v * 256 + u) (show 0 < m by omega)
    go_wp2
    go_ret
    exact ⟨(v * 256 + u) % m, k + 1 + 1, rfl, hr0, hr1, by omega, by omega, hC4.out, grown_trans hg hg2⟩

def OnePost (b : Nat) (x : Option Addr) (n cap k : Nat) (w : World) (e : Ending) (w' : World) : Prop :=
  ∃ (t : Bool) (k' : Nat), e = .returned (.bool t) ∧ k ≤ k' ∧ k' ≤ k + 2 ∧ CurAt w' b x n cap k' ∧ w.grownBy w' (some b)
theorem one_any (b : Nat) (x : Option Addr) (n cap k : Nat) (m : Int) (w : World) (hk : k + 2 ≤ 1000000000000) (hm : 1 ≤ m) (hm2 : m ≤ 1000000000) (hC : CurAt w b x n cap k) (hB : ByRd w x n) :
    Calls Tryz.prog 49 #[.pointer (some ⟨b, 0, none⟩), .int .i64 m] w (OnePost b x n cap k w) := by
  have hC2 := Lib.hid hC
  have hB2 := Lib.hid hB
  clear hC hB
  go_enter Tryz.func49, Tryz.ntmps49
  go_wp2_with fail
  refine (pick_any b x n cap k m w hk hm hm2 hC2.out hB2.out).mono ?_
  rintro e w1 ⟨v, k', rfl, v0, v1, k0, k1, hC3, hg⟩
  have hC3 := Lib.hid hC3
  go_wp2
  go_ret
  exact ⟨_, k', rfl, k0, k1, hC3.out, hg⟩

/-- A list of integers that can be read. -/
def IRd (w : World) (x : Option Addr) (L : List Int) : Prop :=
  ∃ c off, x = some ⟨c, off, none⟩ ∧ c < w.heap.size ∧ ∀ (i : Nat) v, L[i]? = some v → w.cell? ⟨c, off + i, none⟩ = some (.int .i64 v)
def AmongPost (b : Nat) (x : Option Addr) (n cap k : Nat) (L : List Int) (w : World) (e : Ending) (w' : World) : Prop :=
  ∃ (v : Int) (k' : Nat), e = .returned (.int .i64 v) ∧ v ∈ L ∧ k ≤ k' ∧ k' ≤ k + 2 ∧ CurAt w' b x n cap k' ∧ w.grownBy w' (some b)
set_option maxHeartbeats 1000000 in
theorem among_any (b : Nat) (x : Option Addr) (n cap k c : Nat) (c2 : Nat) (L : List Int) (w : World) (hk : k + 2 ≤ 1000000000000) (hl : 1 ≤ L.length) (hl2 : L.length ≤ 1000) (hcb : c ≠ b)
    (hL : IRd w (some ⟨c, 0, none⟩) L) (hC : CurAt w b x n cap k) (hB : ByRd w x n) :
    Calls Tryz.prog 50 #[.pointer (some ⟨b, 0, none⟩), .slice (some ⟨c, 0, none⟩) L.length c2] w (AmongPost b x n cap k L w) := by
  have hC2 := Lib.hid hC
  have hB2 := Lib.hid hB
  have hL2 := Lib.hid hL
  clear hC hB hL
  go_enter Tryz.func50, Tryz.ntmps50
  go_wp2_with fail
  refine (pick_any b x n cap k L.length w hk (by omega) (by omega) hC2.out hB2.out).mono ?_
  rintro e w1 ⟨v, k', rfl, v0, v1, k0, k1, hC3, hg⟩
  have hC3 := Lib.hid hC3
  obtain ⟨i, rfl⟩ := Int.eq_ofNat_of_zero_le v0
  have hi : i < L.length := by omega
  obtain ⟨c', off, e1, hc, hr⟩ := hL2.out
  injection e1 with e1
  injection e1 with e1 e2
  subst e1 e2
  have hcell : w1.cell? ⟨c, i, none⟩ = some (.int .i64 L[i]) := by
    have := hr i L[i] (List.getElem?_eq_getElem hi)
    rw [Nat.zero_add] at this
    exact (World.cell?_of_block (hg.block c hc (fun q => hcb (by injection q)))).trans this
  clear hr
  go_wp2
  go_ret
  exact ⟨L[i], k', rfl, List.getElem_mem hi, k0, k1, hC3.out, hg⟩
end Go.Proofs.YtcmfoclalcmamabGreatDoor
