/-
  Chapter 3: what the model's functions that lay records hand back; where their values are read.
-/
import Derived.Test.YtnmpigedhpdenabRecC
import Derived.Test.YtnmpigedhpdenabRecD
namespace Go.Proofs.Ytnmpigedhpdenab
open Go.RowKit
set_option maxRecDepth 100000

/-- What SortData gives. -/
def sdL (S : List (ByteArray × Int)) (R : List RV) : List RV := rsL (idB S R) (srt R)
theorem sd_small (S : List (ByteArray × Int)) (R : List RV) : (sdL S R).length ≤ 40 ∧ totR (sdL S R) ≤ 240 :=
  rsL_small fun h => ⟨by rw [srt_len]; exact (dok_small h).1, fun q hq => (dok_small h).2 q ((srt_perm R).mem_iff.1 hq)⟩
theorem idB_no1 {S : List (ByteArray × Int)} {R : List RV} (h : schB S = false) : idB S R = false := by unfold idB; rw [h]; rfl
theorem idB_no2 {S : List (ByteArray × Int)} {R : List RV} (h : dokB S R = false) : idB S R = false := by unfold idB; rw [h, Bool.and_false]
theorem idB_yes {S : List (ByteArray × Int)} {R : List RV} (h : schB S = true) (k : dokB S R = true) : idB S R = true := by unfold idB; rw [h, k]; rfl
/-- Records that the model lays: their row, and where their values are read. -/
def InsW (w : World) (lo : Nat) (v : Value) (T : List PR) : Prop :=
  (∀ k, v.ownBlock = some k → lo ≤ k ∧ k < w.heap.size) ∧ ∀ q ∈ T, Rd w q.x (iC q.L) ∧ q.L.length ≤ 1048576 ∧ ∀ b off, q.x = some ⟨b, off, none⟩ → lo ≤ b ∧ b < w.heap.size ∧ v.ownBlock ≠ some b
theorem InsW.below {w w1 : World} {lo : Nat} {v : Value} {T : List PR} (h : InsW w lo v T) (hb : Below w.heap.size w w1) : InsW w1 lo v T :=
  ⟨fun k hk => ⟨(h.1 k hk).1, Nat.lt_of_lt_of_le (h.1 k hk).2 hb.size⟩, fun q hq => ⟨(h.2 q hq).1.below hb, (h.2 q hq).2.1, fun b off e => ⟨((h.2 q hq).2.2 b off e).1, Nat.lt_of_lt_of_le ((h.2 q hq).2.2 b off e).2.1 hb.size, ((h.2 q hq).2.2 b off e).2.2⟩⟩⟩
/-- The row is written, or moved to a new block. -/
theorem InsW.row {w w1 : World} {lo : Nat} {v v1 : Value} {T : List PR} (h : InsW w lo v T) (hg : w.grownBy w1 v.ownBlock) (hv : v1.ownBlock = v.ownBlock ∨ v1.ownBlock = some w.heap.size) (hn : ∀ k, v1.ownBlock = some k → k < w1.heap.size) (hl : lo ≤ w.heap.size) : InsW w1 lo v1 T := by
  refine ⟨fun k hk => ⟨?_, hn k hk⟩, fun q hq => ?_⟩
  · rcases hv with e | e
    · exact (h.1 k (by rw [← e]; exact hk)).1
    · rw [e] at hk; injection hk with hk; omega
  · obtain ⟨h1, h2, h3⟩ := h.2 q hq
    refine ⟨h1.keep hg (fun b off e e2 => (h3 b off e).2.2 e2.symm), h2, fun b off e => ?_⟩
    obtain ⟨k1, k2, k3⟩ := h3 b off e
    refine ⟨k1, Nat.lt_of_lt_of_le k2 hg.size, ?_⟩
    rcases hv with e2 | e2
    · rw [e2]; exact k3
    · rw [e2]; intro e3; injection e3 with e3; omega
theorem InsW.snoc {w : World} {lo : Nat} {v : Value} {T : List PR} {q : PR} (h : InsW w lo v T) (h1 : Rd w q.x (iC q.L)) (h2 : q.L.length ≤ 1048576) (h3 : ∀ b off, q.x = some ⟨b, off, none⟩ → lo ≤ b ∧ b < w.heap.size ∧ v.ownBlock ≠ some b) : InsW w lo v (T ++ [q]) :=
  ⟨h.1, fun p hp => by
    rcases List.mem_append.1 hp with hp | hp
    · exact h.2 p hp
    · rw [List.mem_singleton] at hp; subst hp; exact ⟨h1, h2, h3⟩⟩
theorem InsW.sub {w : World} {lo : Nat} {v : Value} {T U : List PR} (h : InsW w lo v T) (hs : ∀ q ∈ U, q ∈ T) : InsW w lo v U := ⟨h.1, fun q hq => h.2 q (hs q hq)⟩
theorem InsW.drd {w : World} {lo : Nat} {x : Option Addr} {n c : Nat} {T : List PR} (h : InsW w lo (.slice x n c) T) (ho : w.ownsRow lo 140 3 (.slice x n c) n (pC T)) : DRd w lo w.heap.size x T :=
  ⟨Rd.of_own ho, fun b off e => h.1 b (by rw [e]; rfl), fun q hq => ⟨(h.2 q hq).1, fun b off e => ⟨((h.2 q hq).2.2 b off e).1, ((h.2 q hq).2.2 b off e).2.1⟩⟩⟩
theorem Rd.oneR (w : World) (t : TypeId) (a h : Int) (x : Option Addr) (n c : Nat) : Rd (w.alloc (.cells #[.int .i64 a, .int .i64 h, .slice x n c] t)) (some ⟨w.heap.size, 0, none⟩) [.int .i64 a, .int .i64 h, .slice x n c] := by
  refine Or.inr ⟨w.heap.size, 0, rfl, by simp, fun j u hj => ?_⟩
  rw [Nat.zero_add, World.cell?_alloc_at _ _ _ _ rfl, ← hj, ← Array.getElem?_toList]
theorem pC_single (q : PR) : pC [q] = [.int .i64 q.a, .int .i64 q.h, .slice q.x q.L.length q.c] := rfl
/-- Records that the model's function gives. -/
def SsP (R : List RV) (w : World) (e : Ending) (w' : World) : Prop :=
  ∃ x c T, e = .returned (.slice x (List.length (α := PR) T) c) ∧ pM T = R ∧ DRd w' w.heap.size w'.heap.size x T ∧ Below w.heap.size w w'
theorem RB.grown {w w' : World} {g : Nat} {a h : Int} {x : Option Addr} {n c : Nat} {r : Option Nat} (k : RB w g a h x n c) (hg : w.grownBy w' r) (hne : some g ≠ r) : RB w' g a h x n c := by
  have e := hg.block g k.2.2.2 hne
  exact ⟨(World.cell?_of_block (a := ⟨g, 0, none⟩) e).trans k.1, (World.cell?_of_block (a := ⟨g, 1, none⟩) e).trans k.2.1, (World.cell?_of_block (a := ⟨g, 2, none⟩) e).trans k.2.2.1, Nat.lt_of_lt_of_le k.2.2.2 hg.size⟩
theorem OwV.kept {w w1 : World} {lo hi g : Nat} {ti : TypeId} {Q : List PR} (h : OwV w lo hi ti Q) (hg : w.grownBy w1 (some g)) (hne : ∀ q ∈ Q, q.v.ownBlock ≠ some g) : OwV w1 lo hi ti Q := by
  refine ⟨fun q hq => ⟨(h.1 q hq).1.kept hg ?_, (h.1 q hq).2⟩, h.2⟩
  cases hb : q.v.ownBlock with
  | none => exact Or.inl rfl
  | some k => exact Or.inr fun e => hne q hq (by rw [hb, e])
end Go.Proofs.Ytnmpigedhpdenab
