import Derived.Test.YtjbhmofaackjpaaFrac
import Derived.Test.YtjbhmofaackjpaaRows
import Derived.Test.YtjbhmofaackjpaaSchN
import Derived.Test.YtjbhmofaackjpaaApp
import Derived.Deep.AppendLies
import Derived.SizedLaws
namespace Go.Proofs.Ytjbhmofaackjpaa
open Go.RowKit
set_option maxRecDepth 100000

/-- A slice of n bytes that can be read. -/
def ByRd (w : World) (x : Option Addr) (n : Nat) : Prop :=
  n = 0 ∨ ∃ c off, x = some ⟨c, off, none⟩ ∧ c < w.heap.size ∧ ∀ i, i < n → ∃ v : Int, 0 ≤ v ∧ v ≤ 255 ∧ w.cell? ⟨c, off + i, none⟩ = some (.int .u8 v)
/-- The cursor in block b: its bytes, its position, some seed. -/
def CurAt (w : World) (b : Nat) (x : Option Addr) (n cap k : Nat) : Prop :=
  ∃ s : Int, w.cell? ⟨b, 0, none⟩ = some (.slice x n cap) ∧ w.cell? ⟨b, 1, none⟩ = some (.int .i64 k) ∧ w.cell? ⟨b, 2, none⟩ = some (.int .u64 s) ∧
    w.frozen? ⟨b, 1, none⟩ = false ∧ w.frozen? ⟨b, 2, none⟩ = false ∧ b < w.heap.size ∧ (0 < n → ∀ c off, x = some ⟨c, off, none⟩ → c ≠ b)
def NextPost (b : Nat) (x : Option Addr) (n cap k m : Nat) (w : World) (e : Ending) (w' : World) : Prop :=
  ∃ v : Int, e = .returned (.int .i64 v) ∧ 0 ≤ v ∧ v < m ∧ CurAt w' b x n cap k ∧ w.grownBy w' (some b)

theorem cur_step {w : World} {b : Nat} {x : Option Addr} {n cap k : Nat} (hC : CurAt w b x n cap k) (p q : Nat) (u : Int) :
    CurAt ((((w.drewN p).setCell ⟨b, 1, none⟩ (.int .i64 ((k : Int) + 1))).setCell ⟨b, 2, none⟩ (.int .u64 u)).drewN q) b x n cap (k + 1) ∧
      w.grownBy ((((w.drewN p).setCell ⟨b, 1, none⟩ (.int .i64 ((k : Int) + 1))).setCell ⟨b, 2, none⟩ (.int .u64 u)).drewN q) (some b) := by
  obtain ⟨s, c0, c1, c2, f1, f2, hb, hne⟩ := hC
  have d1 : (w.drewN p).cell? ⟨b, 1, none⟩ = some (.int .i64 k) := c1
  have d2 : (w.drewN p).cell? ⟨b, 2, none⟩ = some (.int .u64 s) := c2
  have d0 : (w.drewN p).cell? ⟨b, 0, none⟩ = some (.slice x n cap) := c0
  have e2 : ((w.drewN p).setCell ⟨b, 1, none⟩ (.int .i64 ((k : Int) + 1))).cell? ⟨b, 2, none⟩ = some (.int .u64 s) := by
    rw [World.cell?_setCell_other _ _ _ _ (by simp)]; exact d2
  constructor
  · refine ⟨u, ?_, ?_, ?_, ?_, ?_, ?_, hne⟩
    · show World.cell? _ _ = _
      rw [show ∀ W : World, (W.drewN q).cell? ⟨b, 0, none⟩ = W.cell? ⟨b, 0, none⟩ from fun W => rfl, World.cell?_setCell_other _ _ _ _ (by simp), World.cell?_setCell_other _ _ _ _ (by simp)]
      exact d0
    · rw [show ∀ W : World, (W.drewN q).cell? ⟨b, 1, none⟩ = W.cell? ⟨b, 1, none⟩ from fun W => rfl, World.cell?_setCell_other _ _ _ _ (by simp)]
      rw [World.cell?_setCell_same _ _ _ d1]
      rfl
    · rw [show ∀ W : World, (W.drewN q).cell? ⟨b, 2, none⟩ = W.cell? ⟨b, 2, none⟩ from fun W => rfl]
      exact World.cell?_setCell_same _ _ _ e2
    · rw [show ∀ W : World, (W.drewN q).frozen? ⟨b, 1, none⟩ = W.frozen? ⟨b, 1, none⟩ from fun W => rfl, World.frozen?_setCell, World.frozen?_setCell]
      exact f1
    · rw [show ∀ W : World, (W.drewN q).frozen? ⟨b, 2, none⟩ = W.frozen? ⟨b, 2, none⟩ from fun W => rfl, World.frozen?_setCell, World.frozen?_setCell]
      exact f2
    · show b < Array.size _
      simpa [World.setCell, World.drewN] using hb
  · refine ⟨rfl, rfl, rfl, ?_, ?_⟩
    · show w.heap.size ≤ Array.size _
      simp [World.setCell, World.drewN]
    · intro j _ hj
      have hjb : j ≠ b := fun e => hj (by rw [e])
      show (((w.drewN p).setCell ⟨b, 1, none⟩ (.int .i64 ((k : Int) + 1))).setCell ⟨b, 2, none⟩ (.int .u64 u)).heap[j]? = w.heap[j]?
      rw [Below.heap_setCell _ _ _ _ hjb, Below.heap_setCell _ _ _ _ hjb]
      rfl

theorem and255 (X : Int) : 0 ≤ bits BinOp.and IntKind.u64 X 255 ∧ bits BinOp.and IntKind.u64 X 255 ≤ 255 := by
  have h : (BitVec.ofInt 64 X &&& BitVec.ofInt 64 255).toNat ≤ 255 := by
    rw [BitVec.toNat_and]
    exact Nat.le_trans Nat.and_le_right (by decide)
  have e : bits BinOp.and IntKind.u64 X 255 = IntKind.u64.wrap (((BitVec.ofInt 64 X &&& BitVec.ofInt 64 255).toNat : Nat) : Int) := rfl
  rw [e, IntWalk.u64_in _ (by omega)]
  omega
theorem and255_wrap (X : Int) : 0 ≤ wrap64 (bits BinOp.and IntKind.u64 X 255) ∧ wrap64 (bits BinOp.and IntKind.u64 X 255) < (256 : Nat) := by
  have h := and255 X
  rw [IntWalk.wrap64_in _ (by omega)]
  omega

set_option maxHeartbeats 1000000 in
theorem next_any (b : Nat) (x : Option Addr) (n cap k : Nat) (w : World) (hk : k ≤ 1000000000000) (hC : CurAt w b x n cap k) (hB : ByRd w x n) :
    Calls Try.prog 62 #[.pointer (some ⟨b, 0, none⟩)] w (NextPost b x n cap (k + 1) 256 w) := by
  have hC2 := Lib.hid hC
  obtain ⟨s, c0, c1, c2, f1, f2, hb, hne⟩ := hC
  have hk0 : (0 : Int) ≤ (k : Int) := by omega
  by_cases h : k < n
  · rcases hB with h0 | ⟨c, off, rfl, hc, hcell⟩
    · omega
    obtain ⟨v, v0, v1, hv⟩ := hcell k h
    have hcb := hne (by omega) c off rfl
    clear hcell hne
    have hlt : (k : Int) < (n : Int) := by omega
    go_enter Try.func62, Try.ntmps62
    go_wp2
    go_quiet (fail)
    go_wp2
    go_quiet (fail)
    go_wp2
    go_quiet (fail)
    go_wp2
    go_ret
    exact ⟨v, rfl, v0, (by omega : v < ((256 : Nat) : Int)), (cur_step hC2.out _ _ _).1, (cur_step hC2.out _ _ _).2⟩
  · clear hne hB
    have hge : (n : Int) ≤ (k : Int) := by omega
    go_enter Try.func62, Try.ntmps62
    go_wp2
    go_quiet (fail)
    go_wp2
    go_quiet (fail)
    go_wp2
    go_ret
    exact ⟨_, rfl, (and255_wrap _).1, (and255_wrap _).2, (cur_step hC2.out _ _ _).1, (cur_step hC2.out _ _ _).2⟩

/-- The cursor's bytes stay readable where the cursor alone is written. -/
theorem ByRd.grown {w w' : World} {x : Option Addr} {n b : Nat} (h : ByRd w x n) (hg : w.grownBy w' (some b)) (hne : 0 < n → ∀ c off, x = some ⟨c, off, none⟩ → c ≠ b) : ByRd w' x n := by
  rcases h with h | ⟨c, off, e, hc, hr⟩
  · exact Or.inl h
  rcases Nat.eq_zero_or_pos n with h0 | h0
  · exact Or.inl h0
  · refine Or.inr ⟨c, off, e, Nat.lt_of_lt_of_le hc hg.size, fun i hi => ?_⟩
    obtain ⟨v, v0, v1, hv⟩ := hr i hi
    refine ⟨v, v0, v1, (World.cell?_of_block (hg.block c hc (fun q => hne h0 c off e ?_))).trans hv⟩
    injection q
theorem CurAt.apart {w : World} {b : Nat} {x : Option Addr} {n cap k : Nat} (h : CurAt w b x n cap k) : 0 < n → ∀ c off, x = some ⟨c, off, none⟩ → c ≠ b := by
  obtain ⟨_, _, _, _, _, _, _, h⟩ := h
  exact h
theorem grown_trans {w w1 w2 : World} {b : Nat} (h : w.grownBy w1 (some b)) (k : w1.grownBy w2 (some b)) : w.grownBy w2 (some b) :=
  ⟨k.os.trans h.os, k.tape.trans h.tape, k.output.trans h.output, Nat.le_trans h.size k.size, fun j hj hne => (k.block j (Nat.lt_of_lt_of_le hj h.size) hne).trans (h.block j hj hne)⟩
theorem grown_refl (w : World) (r : Option Nat) : w.grownBy w r := ⟨rfl, rfl, rfl, Nat.le_refl _, fun _ _ _ => rfl⟩

/-- A number that pick gives, at a fixed m from 2 to 200 (one byte is read) or beyond (two bytes). -/
def PickPost (b : Nat) (x : Option Addr) (n cap k : Nat) (m : Int) (w : World) (e : Ending) (w' : World) : Prop :=
  ∃ (v : Int) (k' : Nat), e = .returned (.int .i64 v) ∧ 0 ≤ v ∧ v < m ∧ k ≤ k' ∧ k' ≤ k + 2 ∧ CurAt w' b x n cap k' ∧ w.grownBy w' (some b)
set_option maxHeartbeats 1000000 in
theorem pick_any (b : Nat) (x : Option Addr) (n cap k : Nat) (m : Int) (w : World) (hk : k + 2 ≤ 1000000000000) (hm : 1 ≤ m) (hm2 : m ≤ 1000000000) (hC : CurAt w b x n cap k) (hB : ByRd w x n) :
    Calls Try.prog 43 #[.pointer (some ⟨b, 0, none⟩), .int .i64 m] w (PickPost b x n cap k m w) := by
  have hC2 := Lib.hid hC
  have hB2 := Lib.hid hB
  clear hC hB
  by_cases h1 : m ≤ 1
  · go_enter Try.func43, Try.ntmps43
    go_wp2
    go_ret
    exact ⟨0, k, rfl, by omega, by omega, by omega, by omega, hC2.out, grown_refl _ _⟩
  by_cases h2 : m ≤ 200
  · go_enter Try.func43, Try.ntmps43
    go_wp2_with fail
    refine (next_any b x n cap k w (by omega) hC2.out hB2.out).mono ?_
    rintro e w1 ⟨v, rfl, v0, v1, hC3, hg⟩
    have hC3 := Lib.hid hC3
    have v1 : v < 256 := v1
    have hr0 := Int.emod_nonneg v (show m ≠ 0 by omega)
    have hr1 := Int.emod_lt_of_pos v (show 0 < m by omega)
    go_wp2
    go_ret
    exact ⟨v % m, k + 1, rfl, hr0, hr1, by omega, by omega, hC3.out, hg⟩
  · go_enter Try.func43, Try.ntmps43
    go_wp2_with fail
    refine (next_any b x n cap k w (by omega) hC2.out hB2.out).mono ?_
    rintro e w1 ⟨v, rfl, v0, v1, hC3, hg⟩
    have hB3 := Lib.hid (hB2.out.grown hg hC2.out.apart)
    have hC3 := Lib.hid hC3
    have v1 : v < 256 := v1
    go_wp2_with fail
    refine (next_any b x n cap (k + 1) w1 (by omega) hC3.out hB3.out).mono ?_
    rintro e w2 ⟨u, rfl, u0, u1, hC4, hg2⟩
    have hC4 := Lib.hid hC4
    have u1 : u < 256 := u1
    have hr0 := Int.emod_nonneg (v * 256 + u) (show m ≠ 0 by omega)
    have hr1 := Int.emod_lt_of_pos (v * 256 + u) (show 0 < m by omega)
    go_wp2
    go_ret
    exact ⟨(v * 256 + u) % m, k + 1 + 1, rfl, hr0, hr1, by omega, by omega, hC4.out, grown_trans hg hg2⟩

def OnePost (b : Nat) (x : Option Addr) (n cap k : Nat) (w : World) (e : Ending) (w' : World) : Prop :=
  ∃ (t : Bool) (k' : Nat), e = .returned (.bool t) ∧ k ≤ k' ∧ k' ≤ k + 2 ∧ CurAt w' b x n cap k' ∧ w.grownBy w' (some b)
theorem one_any (b : Nat) (x : Option Addr) (n cap k : Nat) (m : Int) (w : World) (hk : k + 2 ≤ 1000000000000) (hm : 1 ≤ m) (hm2 : m ≤ 1000000000) (hC : CurAt w b x n cap k) (hB : ByRd w x n) :
    Calls Try.prog 47 #[.pointer (some ⟨b, 0, none⟩), .int .i64 m] w (OnePost b x n cap k w) := by
  have hC2 := Lib.hid hC
  have hB2 := Lib.hid hB
  clear hC hB
  go_enter Try.func47, Try.ntmps47
  go_wp2_with fail
  refine (pick_any b x n cap k m w hk hm hm2 hC2.out hB2.out).mono ?_
  rintro e w1 ⟨v, k', rfl, v0, v1, k0, k1, hC3, hg⟩
  have hC3 := Lib.hid hC3
  go_wp2
  go_ret
  exact ⟨_, k', rfl, k0, k1, hC3.out, hg⟩

/-- A list of integers that can be read. -/
def IRd (w : World) (x : Option Addr) (L : List Int) : Prop :=
  ∃ c off, x = some ⟨c, off, none⟩ ∧ c < w.heap.size ∧ ∀ (i : Nat) v, L[i]? = some v → w.cell? ⟨c, off + i, none⟩ = some (.int .i64 v)
def AmongPost (b : Nat) (x : Option Addr) (n cap k : Nat) (L : List Int) (w : World) (e : Ending) (w' : World) : Prop :=
  ∃ (v : Int) (k' : Nat), e = .returned (.int .i64 v) ∧ v ∈ L ∧ k ≤ k' ∧ k' ≤ k + 2 ∧ CurAt w' b x n cap k' ∧ w.grownBy w' (some b)
set_option maxHeartbeats 1000000 in
theorem among_any (b : Nat) (x : Option Addr) (n cap k c : Nat) (c2 : Nat) (L : List Int) (w : World) (hk : k + 2 ≤ 1000000000000) (hl : 1 ≤ L.length) (hl2 : L.length ≤ 1000) (hcb : c ≠ b)
    (hL : IRd w (some ⟨c, 0, none⟩) L) (hC : CurAt w b x n cap k) (hB : ByRd w x n) :
    Calls Try.prog 44 #[.pointer (some ⟨b, 0, none⟩), .slice (some ⟨c, 0, none⟩) L.length c2] w (AmongPost b x n cap k L w) := by
  have hC2 := Lib.hid hC
  have hB2 := Lib.hid hB
  have hL2 := Lib.hid hL
  clear hC hB hL
  go_enter Try.func44, Try.ntmps44
  go_wp2_with fail
  refine (pick_any b x n cap k L.length w hk (by omega) (by omega) hC2.out hB2.out).mono ?_
  rintro e w1 ⟨v, k', rfl, v0, v1, k0, k1, hC3, hg⟩
  have hC3 := Lib.hid hC3
  obtain ⟨i, rfl⟩ := Int.eq_ofNat_of_zero_le v0
  have hi : i < L.length := by omega
  obtain ⟨c', off, e1, hc, hr⟩ := hL2.out
  injection e1 with e1
  injection e1 with e1 e2
  subst e1 e2
  have hcell : w1.cell? ⟨c, i, none⟩ = some (.int .i64 L[i]) := by
    have := hr i L[i] (List.getElem?_eq_getElem hi)
    rw [Nat.zero_add] at this
    exact (World.cell?_of_block (hg.block c hc (fun q => hcb (by injection q)))).trans this
  clear hr
  go_wp2
  go_ret
  exact ⟨L[i], k', rfl, List.getElem_mem hi, k0, k1, hC3.out, hg⟩
end Go.Proofs.Ytjbhmofaackjpaa

namespace Go.Proofs.Ytjbhmofaackjpaa
open Go.RowKit
set_option maxRecDepth 100000

theorem below_drewN0 {B : Nat} {a w : World} (h : Below B a w) (n : Nat) : Below B a (w.drewN n) := ⟨h.os, h.tape, h.output, h.size, h.block⟩
theorem grown_of_below {w w' : World} (h : Below w.heap.size w w') (b : Nat) : w.grownBy w' (some b) := ⟨h.os, h.tape, h.output, h.size, fun j hj _ => h.block j hj⟩
theorem grown_alloc {w w' : World} {b : Nat} (h : w.grownBy w' (some b)) (o : Obj) : w.grownBy (w'.alloc o) (some b) :=
  grown_trans h (grown_of_below ((Below.refl _ _).alloc (Nat.le_refl _) o) b)
theorem grown_drewN {w w' : World} {b : Nat} (h : w.grownBy w' (some b)) (q : Nat) : w.grownBy (w'.drewN q) (some b) :=
  grown_trans h (grown_of_below (below_drewN0 (Below.refl _ _) q) b)
theorem grown_set {w w' : World} {b c : Nat} (h : w.grownBy w' (some b)) (hc : w.heap.size ≤ c) (o : Nat) (v : Value) : w.grownBy (w'.setCell ⟨c, o, none⟩ v) (some b) :=
  ⟨h.os, h.tape, h.output, Nat.le_trans h.size (by simp [World.setCell]), fun j hj hne => (Below.heap_setCell _ _ _ _ (by show j ≠ c; omega)).trans (h.block j hj hne)⟩
theorem CurAt.below {w w' : World} {b : Nat} {x : Option Addr} {n cap k : Nat} (h : CurAt w b x n cap k) (hb : Below w.heap.size w w') : CurAt w' b x n cap k := by
  obtain ⟨s, c0, c1, c2, f1, f2, hs, hne⟩ := h
  exact ⟨s, (hb.cell hs).trans c0, (hb.cell hs).trans c1, (hb.cell hs).trans c2, (hb.frozen hs).trans f1, (hb.frozen hs).trans f2, Nat.lt_of_lt_of_le hs hb.size, hne⟩
theorem CurAt.set {w : World} {b c : Nat} {x : Option Addr} {n cap k : Nat} (h : CurAt w b x n cap k) (hc : c ≠ b) (o : Nat) (v : Value) : CurAt (w.setCell ⟨c, o, none⟩ v) b x n cap k := by
  obtain ⟨s, c0, c1, c2, f1, f2, hs, hne⟩ := h
  refine ⟨s, ?_, ?_, ?_, ?_, ?_, ?_, hne⟩
  · rw [World.cell?_setCell_far _ _ _ _ hc, c0]
  · rw [World.cell?_setCell_far _ _ _ _ hc, c1]
  · rw [World.cell?_setCell_far _ _ _ _ hc, c2]
  · rw [World.frozen?_setCell, f1]
  · rw [World.frozen?_setCell, f2]
  · simpa [World.setCell] using hs
theorem CurAt.inside {w : World} {b : Nat} {x : Option Addr} {n cap k : Nat} (h : CurAt w b x n cap k) : b < w.heap.size := by
  obtain ⟨_, _, _, _, _, _, hs, _⟩ := h
  exact hs
theorem ByRd.below {w w' : World} {x : Option Addr} {n : Nat} (h : ByRd w x n) (hb : Below w.heap.size w w') : ByRd w' x n := by
  rcases h with h | ⟨c, off, e, hc, hr⟩
  · exact Or.inl h
  · refine Or.inr ⟨c, off, e, Nat.lt_of_lt_of_le hc hb.size, fun i hi => ?_⟩
    obtain ⟨v, v0, v1, hv⟩ := hr i hi
    exact ⟨v, v0, v1, (hb.cell hc).trans hv⟩
theorem IRd.lit (w : World) (L : List Int) (ty : Nat) : IRd (w.alloc (.cells (L.map (Value.int .i64)).toArray ty)) (some ⟨w.heap.size, 0, none⟩) L := by
  refine ⟨w.heap.size, 0, rfl, by simp, fun i v hi => ?_⟩
  rw [World.cell?_alloc_at _ _ _ _ rfl, Nat.zero_add, List.getElem?_toArray, List.getElem?_map, hi]
  rfl
theorem CurAt.alloc {w : World} {b : Nat} {x : Option Addr} {n cap k : Nat} (h : CurAt w b x n cap k) (o : Obj) : CurAt (w.alloc o) b x n cap k :=
  h.below ((Below.refl _ _).alloc (Nat.le_refl _) _)
theorem ByRd.alloc {w : World} {x : Option Addr} {n : Nat} (h : ByRd w x n) (o : Obj) : ByRd (w.alloc o) x n :=
  h.below ((Below.refl _ _).alloc (Nat.le_refl _) _)
theorem below_of_grown {w w1 w' : World} {b : Nat} (h : Below w.heap.size w w1) (hg : w1.grownBy w' (some b)) (hb : w.heap.size ≤ b) : Below w.heap.size w w' :=
  ⟨hg.os.trans h.os, hg.tape.trans h.tape, hg.output.trans h.output, Nat.le_trans h.size hg.size, fun j hj => (hg.block j (Nat.lt_of_lt_of_le hj h.size) (fun q => by injection q; omega)).trans (h.block j hj)⟩

theorem CurAt.of_block {w w' : World} {b : Nat} {x : Option Addr} {n cap k : Nat} (h : CurAt w b x n cap k) (e : w'.heap[b]? = w.heap[b]?) (hs : w.heap.size ≤ w'.heap.size) : CurAt w' b x n cap k := by
  obtain ⟨s, c0, c1, c2, f1, f2, hb, hne⟩ := h
  exact ⟨s, (World.cell?_of_block (a := ⟨b, 0, none⟩) e).trans c0, (World.cell?_of_block (a := ⟨b, 1, none⟩) e).trans c1, (World.cell?_of_block (a := ⟨b, 2, none⟩) e).trans c2, (World.frozen?_of_block (a := ⟨b, 1, none⟩) e).trans f1, (World.frozen?_of_block (a := ⟨b, 2, none⟩) e).trans f2, Nat.lt_of_lt_of_le hb hs, hne⟩
/-- The cursor is kept by whoever writes no block up to it. -/
theorem CurAt.far {w w' : World} {b : Nat} {x : Option Addr} {n cap k : Nat} {r : Option Nat} (h : CurAt w b x n cap k) (hg : w.grownBy w' r) (hr : ∀ j, r = some j → b < j) : CurAt w' b x n cap k :=
  h.of_block (hg.block b h.inside (fun e => by have := hr b e.symm; omega)) hg.size
/-- A row behind the cursor is kept by whoever writes the cursor alone. -/
theorem own_cur {w w' : World} {b e size n : Nat} {v : Value} {xs : List Value} (h : w.ownsRow (b + 1) e size v n xs) (hg : w.grownBy w' (some b)) : w'.ownsRow (b + 1) e size v n xs := by
  refine h.kept hg ?_
  cases hv : v.ownBlock with
  | none => exact Or.inl rfl
  | some k => exact Or.inr (fun e => by injection e with e; have := (h.lt k hv).1; omega)
def lenV : Value → Nat
  | .slice _ n _ => n
  | _ => 0
theorem own_lenV {w : World} {base e size n : Nat} {v : Value} {xs : List Value} (h : w.ownsRow base e size v n xs) : lenV v = n := by
  rcases h.2 with ⟨rfl, rfl⟩ | ⟨g, cap, cur, rfl, _⟩ <;> rfl
theorem own_form {w : World} {base e size n : Nat} {v : Value} {xs : List Value} (h : w.ownsRow base e size v n xs) : ∃ x c, v = .slice x n c ∧ n ≤ c ∧ (x = none → c = 0) := by
  rcases h.2 with ⟨rfl, rfl⟩ | ⟨g, cap, cur, rfl, _, _, hc, _⟩
  · exact ⟨none, 0, rfl, Nat.le_refl _, fun _ => rfl⟩
  · exact ⟨_, _, rfl, hc, fun h => by cases h⟩

end Go.Proofs.Ytjbhmofaackjpaa

namespace Go.Proofs.Ytjbhmofaackjpaa
open Go.RowKit
set_option maxRecDepth 100000

theorem vC_two (a : ByteArray) (n : Int) : vC [(a, n)] = [.string a, .int .i64 n] := rfl

theorem step_append_rd {P : Program} (w : World) {ops : Array Oper} {o : Oper} {a : Act} {K : Act → World → Prop} {Q : Exit → Act → World → Prop} {E : Prop} (hgd : o.guard = none) (s x : Operand) (t : TypeId)
    (ho : o.op = .call { callee := .builtin .append, args := #[s, x], argTypes := #[t, t] })
    (base : Nat) (e : TypeId) (i : TypeInfo) (z : Value) (size bytes : Nat) (ht : P.underlying t = some (.slice e)) (hi : P.info? e = some i) (hz : i.zero = some z)
    (hsize : i.size = size) (hby : i.bytes = bytes) (hzs : z.cells.size = size) (hsz : 0 < size)
    (v : Value) (n : Nat) (xs : List Value) (hs : a.eval s = v) (hown : w.ownsRow base e size v n xs)
    (A : Option Addr) (m c : Nat) (hx : a.eval x = .slice A m c) (hc : m ≤ c) (hnil : A = none → c = 0) (news : List Value) (hl : news.length = m * size) (hr : Rd w A news) (h1 : ∀ u ∈ news, u.oneCell' = true)
    (h63 : n + m ≤ maxLen) (hbytes : (n + m) * bytes ≤ 140737488355328) (hbase : base ≤ w.heap.size)
    (h : ∀ v' w', w'.ownsRow base e size v' (n + m) (xs ++ news) → w.grownBy w' v.ownBlock → (v'.ownBlock = v.ownBlock ∨ v'.ownBlock = some w.heap.size) → K (a.put o.dst v') w') :
    if Region.wanted o (yielded ops a.tmps) = true then Oper.wp P o a w K Q else E := by
  have hw : Region.wanted o (yielded ops a.tmps) = true := by simp [Region.wanted, hgd]
  rw [if_pos hw]
  obtain ⟨v', w', hrun, h2, h3, h4⟩ := run_append_rd (P := P) w base t o.type e i z size bytes ht hi hz hsize hby hzs hsz v n xs hown A m c hc hnil news hl hr h1 h63 hbytes hbase
  unfold Oper.wp execOp
  simp only [ho, resolve, invoke, builtin, Sem.run_bind, Sem.run_pure, Result.andThen_ok, List.map_toArray, List.map_cons, List.map_nil, hs, hx, hrun]
  exact h v' w' h2 h3 h4
theorem Rd.oneV (w : World) (t : TypeId) (s : ByteArray) (n : Int) : Rd (w.alloc (.cells #[.string s, .int .i64 n] t)) (some ⟨w.heap.size, 0, none⟩) (vC [(s, n)]) := by
  refine Or.inr ⟨w.heap.size, 0, rfl, by simp, fun j u hj => ?_⟩
  rw [vC_two] at hj
  rw [Nat.zero_add, World.cell?_alloc_at _ _ _ _ rfl, ← hj, ← Array.getElem?_toList]
theorem Rd.drewW {w : World} {x : Option Addr} {xs : List Value} (h : Rd w x xs) : Rd w.drew x xs := h

end Go.Proofs.Ytjbhmofaackjpaa

namespace Go.Proofs.Ytjbhmofaackjpaa
open Go.ChangeShapes Go.WideShapes Go.ChangeAt Go.RowKit
open Go.Joins
set_option maxRecDepth 100000

theorem ByRd.low {w : World} {x : Option Addr} {n : Nat} (h : ByRd w x n) : 0 < n → ∀ c off, x = some ⟨c, off, none⟩ → c < w.heap.size := by
  intro h0 c off e
  rcases h with h | ⟨c', off', e', hc, _⟩
  · omega
  · rw [e'] at e
    injection e with e
    injection e with e _
    omega
/-- Block g begins with two integers. -/
def FB (w : World) (g : Nat) (x y : Int) : Prop := w.cell? ⟨g, 0, none⟩ = some (.int .i64 x) ∧ w.cell? ⟨g, 1, none⟩ = some (.int .i64 y) ∧ g < w.heap.size
theorem FB.below {w w' : World} {g : Nat} {x y : Int} (h : FB w g x y) (hb : Below w.heap.size w w') : FB w' g x y :=
  ⟨(hb.cell h.2.2).trans h.1, (hb.cell h.2.2).trans h.2.1, Nat.lt_of_lt_of_le h.2.2 hb.size⟩
theorem FB.new (w : World) (x y : Int) (t : TypeId) : FB (w.alloc (.cells #[.int .i64 x, .int .i64 y] t)) w.heap.size x y := by
  exact ⟨(World.cell?_alloc_at _ _ _ _ rfl).trans rfl, (World.cell?_alloc_at _ _ _ _ rfl).trans rfl, by simp⟩
theorem FB.al {w : World} {g : Nat} {x y : Int} (h : FB w g x y) (o : Obj) : FB (w.alloc o) g x y := h.below ((Below.refl _ _).alloc (Nat.le_refl _) _)
/-- A slice of bytes that comes in. -/
theorem open_byS {H : Type} {enc : TypeId × Value → H} {W : World} {base : Nat} {v : Value} {d : DataW H} {p : List MemPlace} (hv : Value.okWide Try.prog W .any base 22 v)
    (h : DataW.Trod enc Try.prog W 0 (fun _ => true) true 22 v d p) (hw : ∀ elems spare, d = .slice elems spare → elems.length ≤ 140737488355327) : ∃ x n cap, v = .slice x n cap ∧ n ≤ 140737488355327 ∧ ByRd W x n := by
  obtain ⟨a0, len, cap, rfl⟩ := okWide_slice Try.underlying22 hv
  obtain ⟨fuel, hf⟩ := h
  rcases open_ints Try.underlying22 Try.underlying5 (by kernel_rfl) hf with ⟨hcs, _⟩ | ⟨a, len', cap', zs, hcs, _, hl, hm, hz, hx, hc, hwf⟩
  · simp [Value.cells] at hcs
    obtain ⟨rfl, rfl, rfl⟩ := hcs
    exact ⟨none, 0, 0, rfl, by omega, Or.inl rfl⟩
  · simp [Value.cells] at hcs
    obtain ⟨rfl, rfl, rfl⟩ := hcs
    simp only [if_true] at hz
    injection hx with hx _
    have hn := hw _ _ hx
    simp only [lits, List.length_map, List.length_take] at hn
    have hlen : len ≤ 140737488355327 := by omega
    refine ⟨some a, len, cap, rfl, hlen, ?_⟩
    by_cases h0 : len = 0
    · exact Or.inl h0
    obtain ⟨b, off, spot⟩ := a
    have hc0 := hc 0 (by omega)
    have hspot : spot = none := by simpa [Addr.add] using World.cell?_spot hc0
    subst hspot
    have hblk : b < W.heap.size := World.block_lt_of_cell? W _ (by simpa [Addr.add] using hc0)
    refine Or.inr ⟨b, off, rfl, hblk, fun i hi => ?_⟩
    have k0 := hc i (by omega)
    have hzi : zs[i]? = some (zs[i]'(by omega)) := List.getElem?_eq_getElem (by omega)
    rw [List.getD, hzi, show (⟨b, off, none⟩ : Addr).add i = ⟨b, off + i, none⟩ from by unfold Addr.add; split <;> simp_all] at k0
    have hw2 := hwf _ (List.getElem_mem (show i < zs.length by omega))
    simp only [Lit.wf, Bool.and_eq_true, decide_eq_true_eq] at hw2
    have h1 : IntKind.min .u8 = 0 := by decide
    have h2 : IntKind.max .u8 = 255 := by decide
    simp only [Option.getD_some] at k0
    exact ⟨_, by omega, by omega, k0⟩

end Go.Proofs.Ytjbhmofaackjpaa
