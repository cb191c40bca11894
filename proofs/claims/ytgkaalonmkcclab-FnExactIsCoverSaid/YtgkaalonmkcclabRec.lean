/-
  Records in memory: an area, a house and where the values lie; lists of them. Reading, and what records are without their places. No program's text.
-/
import Derived.Test.YtgkaalonmkcclabSchV
import Derived.Test.YtgkaalonmkcclabOwR
namespace Go.Proofs.Ytgkaalonmkcclab
open Go.RowKit

/-- A record as it lies: its area, its house, where its values lie, the room there, the values. -/
structure PR where
  a : Int
  h : Int
  x : Option Addr
  c : Nat
  L : List Int
/-- A record without its place. -/
abbrev RV := Int × Int × List Int
def PR.m (q : PR) : RV := (q.a, q.h, q.L)
def PR.v (q : PR) : Value := .slice q.x q.L.length q.c
def PR.cs (q : PR) : List Value := [.int .i64 q.a, .int .i64 q.h, q.v]
def pM (Q : List PR) : List RV := Q.map PR.m
/-- The cells of a list of records. -/
def pC : List PR → List Value
  | [] => []
  | q :: r => .int .i64 q.a :: .int .i64 q.h :: q.v :: pC r
theorem pM_len (Q : List PR) : (pM Q).length = Q.length := by unfold pM; simp
theorem pM_at {Q : List PR} {i : Nat} {q : PR} (h : Q[i]? = some q) : (pM Q)[i]? = some q.m := by unfold pM; rw [List.getElem?_map, h]; rfl
theorem pM_app (Q T : List PR) : pM (Q ++ T) = pM Q ++ pM T := by unfold pM; rw [List.map_append]
theorem pM_take (Q : List PR) (k : Nat) : pM (Q.take k) = (pM Q).take k := by unfold pM; rw [List.map_take]
theorem pC_len : ∀ Q : List PR, (pC Q).length = Q.length * 3
  | [] => rfl
  | q :: r => by
    have := pC_len r
    simp only [pC, List.length_cons]
    omega
theorem pC_at0 : ∀ {Q : List PR} {i : Nat} {q : PR}, Q[i]? = some q → (pC Q)[i * 3]? = some (.int .i64 q.a)
  | [], i, p, h => by simp at h
  | q :: r, 0, p, h => by simp at h; subst h; simp [pC]
  | q :: r, i + 1, p, h => by
    simp only [List.getElem?_cons_succ] at h
    rw [show (i + 1) * 3 = i * 3 + 1 + 1 + 1 by omega]
    simp only [pC, List.getElem?_cons_succ]
    exact pC_at0 h
theorem pC_at1 : ∀ {Q : List PR} {i : Nat} {q : PR}, Q[i]? = some q → (pC Q)[i * 3 + 1]? = some (.int .i64 q.h)
  | [], i, p, h => by simp at h
  | q :: r, 0, p, h => by simp at h; subst h; simp [pC]
  | q :: r, i + 1, p, h => by
    simp only [List.getElem?_cons_succ] at h
    rw [show (i + 1) * 3 + 1 = i * 3 + 1 + 1 + 1 + 1 by omega]
    simp only [pC, List.getElem?_cons_succ]
    exact pC_at1 h
theorem pC_at2 : ∀ {Q : List PR} {i : Nat} {q : PR}, Q[i]? = some q → (pC Q)[i * 3 + 2]? = some q.v
  | [], i, p, h => by simp at h
  | q :: r, 0, p, h => by simp at h; subst h; simp [pC]
  | q :: r, i + 1, p, h => by
    simp only [List.getElem?_cons_succ] at h
    rw [show (i + 1) * 3 + 2 = i * 3 + 2 + 1 + 1 + 1 by omega]
    simp only [pC, List.getElem?_cons_succ]
    exact pC_at2 h
theorem pC_app : ∀ (Q T : List PR), pC (Q ++ T) = pC Q ++ pC T
  | [], T => rfl
  | q :: r, T => by simp [pC, pC_app r T]
theorem pC_take : ∀ (Q : List PR) (k : Nat), pC (Q.take k) = (pC Q).take (k * 3)
  | [], k => by simp [pC]
  | p :: r, 0 => by simp [pC]
  | p :: r, k + 1 => by
    rw [show (k + 1) * 3 = k * 3 + 1 + 1 + 1 by omega]
    simp [pC, pC_take r k]
theorem pC_one : ∀ Q : List PR, ∀ u ∈ pC Q, u.oneCell' = true
  | [], u, hu => by cases hu
  | q :: r, u, hu => by
    simp only [pC, List.mem_cons] at hu
    rcases hu with rfl | rfl | rfl | hu
    · rfl
    · rfl
    · rfl
    · exact pC_one r u hu
/-- Two lists of cells that agree at the three places of each record are the same. -/
theorem pC_ext {n : Nat} {xs : List Value} {Q : List PR} (hl : xs.length = n * 3) (hq : Q.length = n) (h : ∀ j, j < n * 3 → xs[j]? = (pC Q)[j]?) : xs = pC Q := by
  apply List.ext_getElem?
  intro j
  rcases Nat.lt_or_ge j (n * 3) with hj | hj
  · exact h j hj
  · rw [List.getElem?_eq_none (by omega), List.getElem?_eq_none (by rw [pC_len]; omega)]

/-- The values of a record, its numbers: what is asked of one that comes in. -/
def ROk (w : World) (q : PR) : Prop := IsI64 q.a ∧ IsI64 q.h ∧ IIn w q.x q.L
def ROk0 (w : World) (q : PR) : Prop := q.L.length ≤ 9223372036854775807 ∧ IsI64 q.a ∧ IsI64 q.h ∧ (∀ n ∈ q.L, IsI64 n) ∧ Rd w q.x (iC q.L)
theorem ROk.below {w w' : World} {q : PR} (h : ROk w q) (hb : Below w.heap.size w w') : ROk w' q := ⟨h.1, h.2.1, h.2.2.below hb⟩
theorem ROk0.below {w w' : World} {q : PR} (h : ROk0 w q) (hb : Below w.heap.size w w') : ROk0 w' q := ⟨h.1, h.2.1, h.2.2.1, h.2.2.2.1, h.2.2.2.2.below hb⟩
/-- A list of records that is read: at most n of them, and none longer. -/
def DIn (w : World) (x : Option Addr) (Q : List PR) : Prop := Q.length ≤ 1048576 ∧ (∀ q ∈ Q, ROk w q) ∧ Rd w x (pC Q)
def DIn0 (w : World) (x : Option Addr) (Q : List PR) : Prop := Q.length ≤ 9223372036854775807 ∧ (∀ q ∈ Q, ROk0 w q) ∧ Rd w x (pC Q)
theorem DIn.below {w w' : World} {x : Option Addr} {Q : List PR} (h : DIn w x Q) (hb : Below w.heap.size w w') : DIn w' x Q := ⟨h.1, fun q hq => (h.2.1 q hq).below hb, h.2.2.below hb⟩
theorem DIn0.below {w w' : World} {x : Option Addr} {Q : List PR} (h : DIn0 w x Q) (hb : Below w.heap.size w w') : DIn0 w' x Q := ⟨h.1, fun q hq => (h.2.1 q hq).below hb, h.2.2.below hb⟩
/-- The cells of record i. -/
theorem Rd.rec {w : World} {x : Option Addr} {Q : List PR} {i : Nat} (h : Rd w x (pC Q)) (hi : i < Q.length) :
    ∃ b off q, x = some ⟨b, off, none⟩ ∧ b < w.heap.size ∧ Q[i]? = some q ∧ w.cell? ⟨b, off + i * 3, none⟩ = some (.int .i64 q.a) ∧ w.cell? ⟨b, off + i * 3 + 1, none⟩ = some (.int .i64 q.h) ∧ w.cell? ⟨b, off + i * 3 + 2, none⟩ = some (.slice q.x q.L.length q.c) := by
  rcases h with h | ⟨b, off, e, hl, hc⟩
  · have := pC_len Q
    rw [h] at this
    simp at this
    omega
  · exact ⟨b, off, Q[i], e, hl, List.getElem?_eq_getElem hi, hc _ _ (pC_at0 (List.getElem?_eq_getElem hi)), hc _ _ (pC_at1 (List.getElem?_eq_getElem hi)), hc _ _ (pC_at2 (List.getElem?_eq_getElem hi))⟩

/-- A range of blocks alone is written: all else is as it was. -/
structure Off (lo hi : Nat) (w w' : World) : Prop where
  os : w'.os = w.os
  tape : w'.tape = w.tape
  output : w'.output = w.output
  size : w.heap.size ≤ w'.heap.size
  block : ∀ k, k < w.heap.size → (k < lo ∨ hi ≤ k) → w'.heap[k]? = w.heap[k]?
section
variable {lo hi : Nat} {w w1 w2 : World}
theorem Off.refl (lo hi : Nat) (w : World) : Off lo hi w w := ⟨rfl, rfl, rfl, Nat.le_refl _, fun _ _ _ => rfl⟩
theorem Off.trans (h : Off lo hi w w1) (k : Off lo hi w1 w2) : Off lo hi w w2 :=
  ⟨k.os.trans h.os, k.tape.trans h.tape, k.output.trans h.output, Nat.le_trans h.size k.size, fun i h1 h2 => (k.block i (Nat.lt_of_lt_of_le h1 h.size) h2).trans (h.block i h1 h2)⟩
theorem Off.of_below (h : Below w.heap.size w w1) : Off lo hi w w1 := ⟨h.os, h.tape, h.output, h.size, fun k h1 _ => h.block k h1⟩
theorem Off.of_grown {r : Option Nat} (h : w.grownBy w1 r) (hr : ∀ k, r = some k → lo ≤ k ∧ k < hi) : Off lo hi w w1 :=
  ⟨h.os, h.tape, h.output, h.size, fun k h1 h2 => h.block k h1 (fun e => by have := hr k e.symm; omega)⟩
theorem Off.wide {lo' hi' : Nat} (h : Off lo hi w w1) (h1 : lo' ≤ lo) (h2 : hi ≤ hi') : Off lo' hi' w w1 := ⟨h.os, h.tape, h.output, h.size, fun k k1 k2 => h.block k k1 (by omega)⟩
theorem Off.below {B : Nat} (h : Off lo hi w w1) (hB : B ≤ lo) (hs : B ≤ w.heap.size) : Below B w w1 := ⟨h.os, h.tape, h.output, h.size, fun k hk => h.block k (by omega) (Or.inl (by omega))⟩
theorem Below.off {w0 : World} (hb : Below w0.heap.size w0 w) (h : Off lo hi w w1) (hl : w0.heap.size ≤ lo) : Below w0.heap.size w0 w1 := hb.trans (h.below hl hb.size)
theorem Rd.off {x : Option Addr} {xs : List Value} (h : Rd w x xs) (hg : Off lo hi w w1) (hne : ∀ b off, x = some ⟨b, off, none⟩ → b < lo ∨ hi ≤ b) : Rd w1 x xs := by
  rcases h with h | ⟨b, off, e, hl, hc⟩
  · exact Or.inl h
  · exact Or.inr ⟨b, off, e, Nat.lt_of_lt_of_le hl hg.size, fun j u hj => (World.cell?_of_block (hg.block b hl (hne b off e))).trans (hc j u hj)⟩
theorem own_off {base e size n : Nat} {v : Value} {xs : List Value} (h : w.ownsRow base e size v n xs) (hg : Off lo hi w w1) (hne : ∀ k, v.ownBlock = some k → k < lo ∨ hi ≤ k) : w1.ownsRow base e size v n xs := by
  refine ⟨h.1, ?_⟩
  rcases h.2 with hn | ⟨g, cap, cur, hv, hb, hg2, rest⟩
  · exact .inl hn
  · refine .inr ⟨g, cap, cur, hv, hb, ?_, rest⟩
    rw [hg.block g (Array.getElem?_eq_some_iff.1 hg2).1 (hne g (by rw [hv]; rfl))]
    exact hg2
theorem OwR.off {lo2 hi2 e size n : Nat} {v : Value} {xs : List Value} (h : OwR w lo2 hi2 e size v n xs) (hg : Off lo hi w w1) (hne : hi2 ≤ lo ∨ hi ≤ lo2) : OwR w1 lo2 hi2 e size v n xs :=
  ⟨own_off h.1 hg (fun k hk => by have := h.2 k hk; omega), h.2⟩
end

/-- A list of records that is read out of blocks between lo and hi. -/
def DRd (w : World) (lo hi : Nat) (x : Option Addr) (Q : List PR) : Prop :=
  Rd w x (pC Q) ∧ (∀ b off, x = some ⟨b, off, none⟩ → lo ≤ b ∧ b < hi) ∧ ∀ q ∈ Q, Rd w q.x (iC q.L) ∧ ∀ b off, q.x = some ⟨b, off, none⟩ → lo ≤ b ∧ b < hi
section
variable {lo hi : Nat} {w w1 : World} {x : Option Addr} {Q : List PR}
theorem DRd.below (h : DRd w lo hi x Q) (hb : Below w.heap.size w w1) : DRd w1 lo hi x Q := ⟨h.1.below hb, h.2.1, fun q hq => ⟨(h.2.2 q hq).1.below hb, (h.2.2 q hq).2⟩⟩
theorem DRd.off {lo2 hi2 : Nat} (h : DRd w lo hi x Q) (hg : Off lo2 hi2 w w1) (hne : hi ≤ lo2 ∨ hi2 ≤ lo) : DRd w1 lo hi x Q :=
  ⟨h.1.off hg (fun b off e => by have := h.2.1 b off e; omega), h.2.1, fun q hq => ⟨(h.2.2 q hq).1.off hg (fun b off e => by have := (h.2.2 q hq).2 b off e; omega), (h.2.2 q hq).2⟩⟩
theorem DRd.more {lo' hi' : Nat} (h : DRd w lo hi x Q) (h1 : lo' ≤ lo) (h2 : hi ≤ hi') : DRd w lo' hi' x Q :=
  ⟨h.1, fun b off e => by have := h.2.1 b off e; omega, fun q hq => ⟨(h.2.2 q hq).1, fun b off e => by have := (h.2.2 q hq).2 b off e; omega⟩⟩
end

/-- The rows of the values: owned, and no block twice. -/
def OwV (w : World) (lo hi : Nat) (ti : TypeId) (Q : List PR) : Prop :=
  (∀ q ∈ Q, OwR w lo hi ti 1 q.v q.L.length (iC q.L)) ∧ (Q.filterMap fun q => q.v.ownBlock).Nodup
/-- A list of records that a call owns: its row, the values' rows; no block twice. -/
def OwD (w : World) (lo hi : Nat) (tr ti : TypeId) (v : Value) (Q : List PR) : Prop :=
  OwR w lo hi tr 3 v Q.length (pC Q) ∧ OwV w lo hi ti Q ∧ ∀ q ∈ Q, ∀ k, v.ownBlock = some k → q.v.ownBlock ≠ some k
section
variable {lo hi : Nat} {w w1 : World} {tr ti : TypeId} {v : Value} {Q : List PR}
theorem OwV.below (h : OwV w lo hi ti Q) (hb : Below w.heap.size w w1) : OwV w1 lo hi ti Q := ⟨fun q hq => (h.1 q hq).below hb, h.2⟩
theorem OwV.off {lo2 hi2 : Nat} (h : OwV w lo hi ti Q) (hg : Off lo2 hi2 w w1) (hne : hi ≤ lo2 ∨ hi2 ≤ lo) : OwV w1 lo hi ti Q := ⟨fun q hq => (h.1 q hq).off hg hne, h.2⟩
theorem OwV.perm {T : List PR} (h : OwV w lo hi ti Q) (hp : Q.Perm T) : OwV w lo hi ti T := ⟨fun q hq => h.1 q (hp.mem_iff.2 hq), (hp.filterMap _).nodup_iff.1 h.2⟩
theorem OwD.below (h : OwD w lo hi tr ti v Q) (hb : Below w.heap.size w w1) : OwD w1 lo hi tr ti v Q := ⟨h.1.below hb, h.2.1.below hb, h.2.2⟩
theorem OwD.off {lo2 hi2 : Nat} (h : OwD w lo hi tr ti v Q) (hg : Off lo2 hi2 w w1) (hne : hi ≤ lo2 ∨ hi2 ≤ lo) : OwD w1 lo hi tr ti v Q := ⟨h.1.off hg hne, h.2.1.off hg hne, h.2.2⟩
theorem OwR.more {lo' hi' e size n : Nat} {u : Value} {xs : List Value} (h : OwR w lo hi e size u n xs) (h1 : lo' ≤ lo) (h2 : hi ≤ hi') : OwR w lo' hi' e size u n xs := ⟨own_more h.1 h1, fun k hk => by have := h.2 k hk; omega⟩
theorem OwV.more {lo' hi' : Nat} (h : OwV w lo hi ti Q) (h1 : lo' ≤ lo) (h2 : hi ≤ hi') : OwV w lo' hi' ti Q := ⟨fun q hq => (h.1 q hq).more h1 h2, h.2⟩
theorem OwD.more {lo' hi' : Nat} (h : OwD w lo hi tr ti v Q) (h1 : lo' ≤ lo) (h2 : hi ≤ hi') : OwD w lo' hi' tr ti v Q := ⟨h.1.more h1 h2, h.2.1.more h1 h2, h.2.2⟩
theorem OwD.form (h : OwD w lo hi tr ti v Q) : ∃ x c, v = .slice x Q.length c ∧ Q.length ≤ c ∧ (x = none → c = 0) := h.1.form
theorem own_blk {g : Nat} {off n c : Nat} : (Value.slice (some ⟨g, off, none⟩) n c).ownBlock = some g := rfl
theorem OwR.inr {e size n c : Nat} {x : Option Addr} {xs : List Value} (h : OwR w lo hi e size (.slice x n c) n xs) : ∀ b off, x = some ⟨b, off, none⟩ → lo ≤ b ∧ b < hi := fun b off e => h.2 b (by rw [e]; rfl)
theorem OwD.drd {x : Option Addr} {c : Nat} (h : OwD w lo hi tr ti (.slice x Q.length c) Q) : DRd w lo hi x Q :=
  ⟨h.1.rd, h.1.inr, fun q hq => ⟨(h.2.1.1 q hq).rd, (h.2.1.1 q hq).inr⟩⟩
end
end Go.Proofs.Ytgkaalonmkcclab
