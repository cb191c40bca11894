import Derived.Test.YtgkaalonmkcclabMxM
import Derived.Test.YtgkaalonmkcclabPRcA
import Derived.Stop.RegionWithIn
import Derived.Sort.CutIn
import Derived.Test.YtgkaalonmkcclabImA
import Derived.Test.YtgkaalonmkcclabKit
import Derived.CallsIn
import Derived.OrdersHeld
import Derived.OrdersIn
import Derived.RangeFuncCalls
import Derived.Deep.RegionHeld
namespace Go.Proofs.Ytgkaalonmkcclab
open Go.RowKit Go.Shelf
set_option maxRecDepth 100000

theorem own_same {w w' : World} {base e s n : Nat} {v : Value} {xs : List Value} (h : w.ownsRow base e s v n xs) (hk : ∀ (g : Nat) (cur : Array Value) (fz : Nat × Nat), w.heap[g]? = some (Obj.cells cur e fz) → w'.heap[g]? = w.heap[g]?) : w'.ownsRow base e s v n xs := by
  refine ⟨h.1, ?_⟩
  rcases h.2 with hn | ⟨g, cap, cur, rfl, hb, hgg, rest⟩
  · exact .inl hn
  · exact .inr ⟨g, cap, cur, rfl, hb, (hk g cur _ hgg).trans hgg, rest⟩
theorem own_typ {w : World} {base e s n : Nat} {v : Value} {xs : List Value} (h : w.ownsRow base e s v n xs) : ∀ k, v.ownBlock = some k → ∃ (cs : Array Value) (fz : Nat × Nat), w.heap[k]? = some (Obj.cells cs e fz) := by
  intro k hk
  rcases h.2 with ⟨rfl, _⟩ | ⟨g, cap, cur, rfl, _, hgg, _⟩
  · cases hk
  · injection hk with hk
    subst hk
    exact ⟨cur, _, hgg⟩
/-- Blocks of cells of other types than two stay. -/
def KxT (a b : Nat) (w w' : World) : Prop := w.heap.size ≤ w'.heap.size ∧ ∀ (g : Nat) (cur : Array Value) (e : Nat) (fz : Nat × Nat), w.heap[g]? = some (Obj.cells cur e fz) → e ≠ a → e ≠ b → w'.heap[g]? = w.heap[g]?
theorem KxT.refl (a b : Nat) (w : World) : KxT a b w w := ⟨Nat.le_refl _, fun _ _ _ _ _ _ _ => rfl⟩
theorem KxT.trans {a b : Nat} {w1 w2 w3 : World} (h : KxT a b w1 w2) (k : KxT a b w2 w3) : KxT a b w1 w3 := ⟨Nat.le_trans h.1 k.1, fun g cur e fz hg ha hb => by
  have e1 := h.2 g cur e fz hg ha hb
  exact (k.2 g cur e fz (e1.trans hg) ha hb).trans e1⟩
theorem KxT.of_below {a b : Nat} {w w' : World} (h : Below w.heap.size w w') : KxT a b w w' := ⟨h.size, fun g _ _ _ hg _ _ => h.block g (Array.getElem?_eq_some_iff.1 hg).1⟩
theorem KxT.of_set {a b : Nat} {w : World} {p : Addr} {cs : Array Value} {fz : Nat × Nat} (h : w.heap[p.block]? = some (Obj.cells cs a fz)) (u : Value) : KxT a b w (w.setCell p u) := ⟨by simp, fun g cur e fz2 hg ha _ => Below.heap_setCell _ _ _ _ (by rintro rfl; rw [h] at hg; cases hg; exact ha rfl)⟩
theorem KxT.of_grown {a b : Nat} {w w' : World} {r : Option Nat} (h : w.grownBy w' r) (hr : ∀ k, r = some k → ∃ (cs : Array Value) (fz : Nat × Nat), w.heap[k]? = some (Obj.cells cs b fz)) : KxT a b w w' := ⟨h.size, fun g cur e fz hg _ hb => h.block g (Array.getElem?_eq_some_iff.1 hg).1 (fun he => by
  obtain ⟨cs, fz2, hk⟩ := hr g he.symm
  rw [hk] at hg
  cases hg
  exact hb rfl)⟩
theorem KxT.own {a b : Nat} {w w' : World} {base e s n : Nat} {v : Value} {xs : List Value} (k : KxT a b w w') (h : w.ownsRow base e s v n xs) (ha : e ≠ a) (hb : e ≠ b) : w'.ownsRow base e s v n xs := own_same h fun g cur fz hg => k.2 g cur e fz hg ha hb

/-- A list of edits that a call owns: its row, the rows of its edits, no block twice. -/
def OwL (w : World) (lo : Nat) (v : Value) (T : List PR) : Prop :=
  w.ownsRow lo 90 1 v T.length (eC T) ∧ (∀ q ∈ T, w.ownsRow lo 3 1 q.v q.L.length (iC q.L)) ∧ (T.filterMap fun q => q.v.ownBlock).Nodup
theorem OwL.nil (w : World) (lo : Nat) : OwL w lo (.slice none 0 0) [] := ⟨World.ownsRow_nil _ _ _ _, (fun q h => by cases h), List.nodup_nil⟩
theorem OwL.below {w w' : World} {lo : Nat} {v : Value} {T : List PR} (h : OwL w lo v T) (hb : Below w.heap.size w w') : OwL w' lo v T := ⟨own_below h.1 hb, fun q hq => own_below (h.2.1 q hq) hb, h.2.2⟩
theorem OwL.more {w : World} {lo lo' : Nat} {v : Value} {T : List PR} (h : OwL w lo v T) (hl : lo' ≤ lo) : OwL w lo' v T := ⟨own_more h.1 hl, fun q hq => own_more (h.2.1 q hq) hl, h.2.2⟩
theorem OwL.lt {w : World} {lo : Nat} {v : Value} {T : List PR} (h : OwL w lo v T) : ∀ p ∈ T, ∀ k, p.v.ownBlock = some k → k < w.heap.size := fun p hp k hk => ((h.2.1 p hp).lt k hk).2
theorem OwL.set {w : World} {lo a : Nat} {v : Value} {T : List PR} {p : Addr} {cs : Array Value} {fz : Nat × Nat} (h : OwL w lo v T) (hp : w.heap[p.block]? = some (Obj.cells cs a fz)) (ha : 90 ≠ a) (ha2 : 3 ≠ a) (u : Value) : OwL (w.setCell p u) lo v T := by
  have k : ∀ e : Nat, e ≠ a → ∀ (g : Nat) (cur : Array Value) (fz2 : Nat × Nat), w.heap[g]? = some (Obj.cells cur e fz2) → (w.setCell p u).heap[g]? = w.heap[g]? := fun e he g cur fz2 hg => Below.heap_setCell _ _ _ _ (by rintro rfl; rw [hp] at hg; cases hg; exact he rfl)
  exact ⟨own_same h.1 (k _ ha), fun q hq => own_same (h.2.1 q hq) (k _ ha2), h.2.2⟩
theorem OwL.snoc {w1 w2 : World} {lo nq : Nat} {v v' : Value} {T : List PR} {q : PR} {o : Obj} (h : OwL w1 lo v T) (hg : (w1.alloc o).grownBy w2 v.ownBlock) (hrow : w2.ownsRow lo 90 1 v' (T.length + 1) (eC T ++ eC [q])) (hq : w1.ownsRow nq 3 1 q.v q.L.length (iC q.L)) (hlo : lo ≤ nq) (hfr : ∀ p ∈ T, ∀ k, p.v.ownBlock = some k → k < nq) : OwL w2 lo v' (T ++ [q]) := by
  refine ⟨own_eq hrow (by simp) (by unfold eC; rw [List.map_append]), fun p hp => ?_, ?_⟩
  · rcases List.mem_append.1 hp with h1 | h1
    · exact ((h.2.1 p h1).alloc o).kept hg (rows_apart (h.2.1 p h1) h.1 (by decide))
    · obtain rfl := List.mem_singleton.1 h1
      exact own_more ((hq.alloc o).kept hg (rows_apart hq h.1 (by decide))) hlo
  · rw [List.filterMap_append, List.nodup_append]
    refine ⟨h.2.2, ?_, ?_⟩
    · cases e : q.v.ownBlock with
      | none => simp [List.filterMap, e]
      | some k => simp [List.filterMap, e]
    · intro a ha b hb
      obtain ⟨p, hp, ep⟩ := List.mem_filterMap.1 ha
      obtain ⟨r, hr, er⟩ := List.mem_filterMap.1 hb
      obtain rfl := List.mem_singleton.1 hr
      have h1 := hfr p hp a ep
      have h2 := (hq.lt b er).1
      omega
theorem OwL.owE {w : World} {lo : Nat} {v : Value} {T : List PR} (h : OwL w lo v T) : OwE w lo w.heap.size 90 3 v T := ⟨OwR.of h.1, ⟨fun q hq => OwR.of (h.2.1 q hq), h.2.2⟩, fun q hq k hk e => by
  rcases rows_apart (h.2.1 q hq) h.1 (by decide) with h0 | h0
  · rw [h0] at e; cases e
  · exact h0 (e.trans hk.symm)⟩
/-- A list of edits and a Bool, handed back. -/
def eE (b : Bool) (L : List (List Int)) : List (List Int) := if b then L else []
theorem eE_yes {b : Bool} (L : List (List Int)) (h : b = true) : eE b L = L := by rw [h]; rfl
theorem eE_no {b : Bool} (L : List (List Int)) (h : b = false) : eE b L = [] := by rw [h]; rfl
def RetEL (L : List (List Int)) (b : Bool) (w : World) (e : Ending) (w' : World) : Prop := ∃ v T, e = .returned (.tuple #[v, .bool b]) ∧ eM T = L ∧ OwL w' w.heap.size v T ∧ Below w.heap.size w w'
theorem retEL_no {L : List (List Int)} {b : Bool} {w w' : World} (hb : b = false) (h : Below w.heap.size w w') : RetEL (eE b L) b w (.returned (.tuple #[.slice none 0 0, .bool false])) w' := ⟨_, [], by rw [hb], (eE_no L hb).symm, OwL.nil _ _, h⟩
theorem retEL_yes {L : List (List Int)} {b : Bool} {w w' : World} {v : Value} {T : List PR} (hb : b = true) (hT : eM T = L) (ho : OwL w' w.heap.size v T) (h : Below w.heap.size w w') : RetEL (eE b L) b w (.returned (.tuple #[v, .bool true])) w' := ⟨v, T, by rw [hb], by rw [eE_yes L hb]; exact hT, ho, h⟩
/-- A schema's cells, read at a known place. -/
theorem sin_box {w : World} {x : Option Addr} {c : Nat} {S : List (ByteArray × Int)} (h : SIn w x c S) (hs : schB S = true) : ∃ b off, x = some ⟨b, off, none⟩ ∧ b < w.heap.size ∧ ∀ j, j < S.length → w.cell? ⟨b, off + j * 2, none⟩ = some (.string (nmA S j)) ∧ w.cell? ⟨b, off + j * 2 + 1, none⟩ = some (.int .i64 (lvA S j)) := by
  have hsl := schB_len hs
  obtain ⟨b, off, _, _, hx, hb, _, _, _⟩ := h.rd.var (i := 0) (by omega)
  refine ⟨b, off, hx, hb, fun j hj => ?_⟩
  obtain ⟨b', off', nm, lv, hx', _, hSj, c0, c1⟩ := h.rd.var (i := j) hj
  rw [hx] at hx'
  injection hx' with hx'
  injection hx' with e1 e2
  subst e1 e2
  have := at_nm hj
  rw [hSj] at this
  injection this with this
  injection this with e3 e4
  rw [← e3, ← e4]
  exact ⟨c0, c1⟩
end Go.Proofs.Ytgkaalonmkcclab

namespace Go.Proofs.Ytgkaalonmkcclab
open Go.RowKit Go.Shelf
set_option maxRecDepth 100000
attribute [local go_sem] Oper.semAt_some

theorem drop_at {α : Type} {L : List α} {i : Nat} {x : α} (h : L[i]? = some x) : L.drop i = x :: L.drop (i + 1) := by
  have h2 := (List.getElem?_eq_some_iff.1 h).1
  rw [List.drop_eq_getElem_cons h2]
  rw [List.getElem?_eq_getElem h2] at h
  rw [Option.some.inj h]
theorem nx_prefix : ∀ (i : Nat) (B : List (Int × Int)) (E y : List Int), i ≤ E.length → E.length = B.length → nxL (B.drop i) (E.drop i) = some y → nxL B E = some (E.take i ++ y)
  | 0, B, E, y, _, _, h => h
  | i + 1, [], E, y, h1, h2, _ => by rw [List.length_nil] at h2; omega
  | i + 1, p :: B, [], y, h1, h2, _ => by simp at h1
  | i + 1, p :: B, x :: E, y, h1, h2, h => by
    rw [List.length_cons] at h1
    rw [List.length_cons, List.length_cons] at h2
    rw [List.drop_succ_cons, List.drop_succ_cons] at h
    have := nx_prefix i B E y (by omega) (by omega) h
    rw [nx_some this]
    rfl
/-- The row when the places from i on have been put back. -/
def rsL (B : List (Int × Int)) (E : List Int) (i : Nat) : List Int := E.take i ++ (lwL B).drop i
theorem lw_len (B : List (Int × Int)) : (lwL B).length = B.length := by unfold lwL; rw [List.length_map]
theorem rs_len {B : List (Int × Int)} {E : List Int} {i : Nat} (h : E.length = B.length) (hi : i ≤ E.length) : (rsL B E i).length = E.length := by unfold rsL; rw [List.length_append, List.length_take, List.length_drop, lw_len]; omega
theorem rs_all {B : List (Int × Int)} {E : List Int} (h : E.length = B.length) : rsL B E E.length = E := by unfold rsL; rw [List.take_length, List.drop_eq_nil_of_le (by rw [lw_len]; omega), List.append_nil]
theorem rs_zero (B : List (Int × Int)) (E : List Int) : rsL B E 0 = lwL B := rfl
theorem rs_at {B : List (Int × Int)} {E : List Int} {i : Nat} {x : Int} (h : E[i]? = some x) : (rsL B E (i + 1))[i]? = some x := by
  have hi := (List.getElem?_eq_some_iff.1 h).1
  unfold rsL
  rw [List.getElem?_append_left (by rw [List.length_take]; omega), List.getElem?_take_of_lt (by omega)]
  exact h
theorem rs_set {B : List (Int × Int)} {E : List Int} {i : Nat} {x : Int} (n : Int) (h : E[i]? = some x) : (rsL B E (i + 1)).set i n = E.take i ++ n :: (lwL B).drop (i + 1) := by
  have hi := (List.getElem?_eq_some_iff.1 h).1
  unfold rsL
  rw [take_snoc h, List.append_assoc, List.set_append_right _ _ (by rw [List.length_take]; omega), List.length_take, Nat.min_eq_left (by omega), Nat.sub_self]
  rfl
theorem rs_back {B : List (Int × Int)} {E : List Int} {i : Nat} {x : Int} {p : Int × Int} (h : E[i]? = some x) (hB : B[i]? = some p) : (rsL B E (i + 1)).set i p.1 = rsL B E i := by
  rw [rs_set _ h]
  unfold rsL
  rw [drop_at (show (lwL B)[i]? = some p.1 by unfold lwL; rw [List.getElem?_map, hB]; rfl)]
theorem nx_hit {B : List (Int × Int)} {E : List Int} {i : Nat} {x : Int} {p : Int × Int} (hl : E.length = B.length) (h : E[i]? = some x) (hB : B[i]? = some p) (h0 : nxL (B.drop (i + 1)) (E.drop (i + 1)) = none) (k : x < p.2) : nxL B E = some ((rsL B E (i + 1)).set i (x + 1)) := by
  have hi := (List.getElem?_eq_some_iff.1 h).1
  rw [rs_set _ h]
  refine nx_prefix i B E _ (by omega) hl ?_
  rw [drop_at h, drop_at hB, nx_up h0 k]
  congr 2
  unfold lwL
  rw [List.map_drop]
theorem nx_miss {B : List (Int × Int)} {E : List Int} {i : Nat} {x : Int} {p : Int × Int} (h : E[i]? = some x) (hB : B[i]? = some p) (h0 : nxL (B.drop (i + 1)) (E.drop (i + 1)) = none) (k : ¬ x < p.2) : nxL (B.drop i) (E.drop i) = none := by
  rw [drop_at h, drop_at hB]
  exact nx_end h0 k
/-- The library's walk from the last on, which tells the places that were met when a round stops it. -/
def BwOrd {S : List (ByteArray × Int)} (pre : List (BwI S)) : Prop := bwM pre = cmL S.length (S.length - pre.length)
theorem ord_step {S : List (ByteArray × Int)} {pre : List (BwI S)} {z : BwI S} (h : BwOrd (pre ++ [z])) (hl : pre.length < S.length) : BwOrd pre ∧ z.1 = S.length - pre.length - 1 := by
  unfold BwOrd bwM at *
  rw [List.map_append, List.length_append, List.length_singleton, cmL_step (by omega), show S.length - (pre.length + 1) + 1 = S.length - pre.length by omega] at h
  obtain ⟨h1, h2⟩ := List.append_inj' h (by rw [List.length_singleton, List.map_singleton, List.length_singleton])
  have h3 : z.1 = S.length - (pre.length + 1) := (List.cons.inj h2).1
  exact ⟨h1, by omega⟩
theorem ord_nil {S : List (ByteArray × Int)} : BwOrd ([] : List (BwI S)) := by
  unfold BwOrd bwM
  rw [List.length_nil, Nat.sub_zero, cmL_end]
  rfl
set_option maxHeartbeats 2000000 in
theorem bwp_in (F : Fence) (n : Nat) (hF : F.fn 192) (hro : F.round = none) (hn : 1 ≤ n) (l Bs n₀ b off cap : Nat) (S : List (ByteArray × Int)) (hl6 : S.length ≤ 6) (hb : b < n₀) (J Jx : List (BwI S) → World → Prop)
    (hY : ∀ pre x W, J pre W → pre.length < S.length → YieldAt F (n - 1) Try.prog l #[.int .i64 (x.1 : Int), .agg #[.string (nmA S x.1), .int .i64 (lvA S x.1)]] W fun e W' =>
      (e = .returned (.bool true) ∧ J (pre ++ [x]) W' ∧ KpB n₀ Bs W W') ∨ (e = .returned (.bool false) ∧ Jx (pre ++ [x]) W'))
    (W : World) (hBs : Boxed W Bs 29 (.slice (some ⟨b, off, none⟩) S.length cap))
    (hc : ∀ j, j < S.length → W.cell? ⟨b, off + j * 2, none⟩ = some (.string (nmA S j)) ∧ W.cell? ⟨b, off + j * 2 + 1, none⟩ = some (.int .i64 (lvA S j))) (h0 : J [] W) :
    CallsIn F n Try.prog 192 #[.func (.yield l) #[] #[], .pointer (some ⟨Bs, 0, none⟩)] W fun e W' => (∃ v, e = .returned v) ∧
      ((∃ ys : List (BwI S), (BwOrd ys ∧ ys.length = S.length) ∧ J ys W') ∨ (∃ pre : List (BwI S), (BwOrd pre ∧ pre.length ≤ S.length) ∧ Jx pre W')) := by
  have hcB := hBs.cell
  refine callsIn_of_wp Try.func192 rfl hF ?_ hro
  simp only [Try.ntmps192, List.size_toArray, List.length_cons, List.length_nil, Nat.reduceAdd, Nat.reduceSub, Array.replicate_succ, Array.replicate_zero, List.push_toArray, List.append_toArray, List.nil_append, List.cons_append]
  gi_wp2
  clear hcB
  gi_loopw [3] (fun i wr => ∃ (m : Nat) (pre : List (BwI S)), m ≤ S.length ∧ i = .int .i64 (pdZ m) ∧ Hid (pre.map (·.1) = cmL S.length m) ∧ J pre wr ∧ Below n₀ W wr ∧ wr.heap[Bs]? = W.heap[Bs]?)
    (fun i _ => (intOf i + 1).toNat)
  case atStart => exact ⟨S.length, [], Nat.le_refl _, rfl, by unfold Hid; rw [cmL_end]; rfl, h0, Below.refl _ _, rfl⟩
  case round =>
    obtain ⟨m, pre, hm, rfl, hpre, hJs, hnx, hbox⟩ := hrel
    have hcB := Boxed.cell (show Boxed wr Bs 29 _ from hbox.trans hBs)
    have hplen : pre.length = S.length - m := by
      have := congrArg List.length hpre.out
      rwa [List.length_map, cmL_len] at this
    cases m with
    | zero =>
      have hz : pdZ 0 = -1 := rfl
      rw [hz]
      clear hz
      replace hbox := Lib.hid hbox
      have hfin : Hid (BwOrd pre ∧ pre.length = S.length) := ⟨by unfold BwOrd bwM; rw [hplen, hpre.out]; congr 1; omega, by omega⟩
      clear hplen
      gi_wp2
      go_end0
      exact ⟨⟨_, rfl⟩, .inl ⟨pre, hfin.out, hJs⟩⟩
    | succ j =>
      rw [pdZ_s]
      have hlt : j < S.length := hm
      have hlen : pre.length < S.length := by omega
      obtain ⟨fn, tmps, assign, body, hy, hR⟩ := hY pre ⟨j, hlt⟩ wr hJs hlen
      dsimp only at hy
      obtain ⟨c0, c1⟩ := hc j hlt
      have hc0 := (hnx.cell (p := ⟨b, off + j * 2, none⟩) hb).trans c0
      have hc1 := (hnx.cell (p := ⟨b, off + j * 2 + 1, none⟩) hb).trans c1
      have hlt' : (j : Int) < (S.length : Int) := by omega
      replace hbox := Lib.hid hbox
      have hmap : Hid ((pre ++ [(⟨j, hlt⟩ : BwI S)]).map (·.1) = cmL S.length j) := by unfold Hid; rw [List.map_append, hpre.out, cmL_step hlt]; rfl
      have hord : Hid (BwOrd (pre ++ [(⟨j, hlt⟩ : BwI S)]) ∧ (pre ++ [(⟨j, hlt⟩ : BwI S)]).length ≤ S.length) := ⟨by unfold BwOrd bwM; rw [hmap.out, List.length_append, List.length_singleton, hplen]; congr 1; omega, by rw [List.length_append, List.length_singleton]; omega⟩
      clear hplen
      gi_wp2
      refine hR.mono ?_
      rintro e W3 (⟨rfl, hJ3, hk3⟩ | ⟨rfl, hJx3⟩)
      · gi_wp2
        go_roundw
        case rel => exact ⟨j, pre ++ [⟨j, hlt⟩], by omega, rfl, hmap, hJ3, hnx.trans hk3.1, hk3.2.trans hbox.out⟩
        case measure => first | (simp [intOf]; done) | (simp [intOf]; omega)
      · gi_wp2
        refine bodyPost_ret (results_none rfl _ _ _) rfl ?_
        exact ⟨⟨_, rfl⟩, .inr ⟨_, hord.out, hJx3⟩⟩
theorem bwp_stops (F : Fence) (n : Nat) (hF : F.fn 192) (hro : F.round = none) (hn : 1 ≤ n) (Bs n₀ b off cap : Nat) (S : List (ByteArray × Int)) (hl6 : S.length ≤ 6) (hb : b < n₀) (w : World) (hn₀ : n₀ ≤ w.heap.size)
    (hBs : Boxed w Bs 29 (.slice (some ⟨b, off, none⟩) S.length cap))
    (hc : ∀ j, j < S.length → w.cell? ⟨b, off + j * 2, none⟩ = some (.string (nmA S j)) ∧ w.cell? ⟨b, off + j * 2 + 1, none⟩ = some (.int .i64 (lvA S j))) :
    SeqStopsK F n Try.prog 192 #[.pointer (some ⟨Bs, 0, none⟩)] (fun x : BwI S => #[.int .i64 (x.1 : Int), .agg #[.string (nmA S x.1), .int .i64 (lvA S x.1)]]) (KpB n₀ Bs)
      (fun ys => BwOrd ys ∧ ys.length = S.length) (fun pre => BwOrd pre ∧ pre.length ≤ S.length) S.length w := fun l J Jx W hW _ _ hY h0 =>
  bwp_in F n hF hro hn l Bs n₀ b off cap S hl6 hb J Jx hY W (boxed_below hBs hW) (fun j hj => ⟨(hW.cell (p := ⟨b, off + j * 2, none⟩) (Nat.lt_of_lt_of_le hb hn₀)).trans (hc j hj).1, (hW.cell (p := ⟨b, off + j * 2 + 1, none⟩) (Nat.lt_of_lt_of_le hb hn₀)).trans (hc j hj).2⟩) h0
/-- The other blocks are as they were. -/
def FrG (g : Nat) (w X : World) : Prop := w.heap.size ≤ X.heap.size ∧ ∀ k, k < w.heap.size → k ≠ g → X.heap[k]? = w.heap[k]?
theorem frG_own {β : Type} {g B : Nat} {w : World} (h : w.heap.size ≤ B) : OwnFrom B (fun (_ : β) X => FrG g w X) := fun _ X Y row hs hg hr => ⟨Nat.le_trans hs.1 hg.size, fun k hk hne => (hg.block k (Nat.lt_of_lt_of_le hk hs.1) (fun e => by have := (hr k e.symm).1; omega)).trans (hs.2 k hk hne)⟩
theorem res1_read {n t : Nat} {v : Value} {W : World} (h : Boxed W n t v) (tmps : Array Value) (h6 : tmps[6]? = some (.pointer (some ⟨n, 0, none⟩))) :
    (results Try.f173 tmps).run Try.prog W = .ok v W := by
  have d1 := h.cell
  simp [results, Try.results173, h6, loadVar, go_sem, d1]
theorem grown_ofG {n g D : Nat} {W00 w X : World} (hB : Below n W00 w) (hX : Below n W00 X) (hF : FrG g w X) (hD : w.heap.size ≤ D) (o : Obj) : w.grownBy (X.putObj D o) (some g) :=
  ⟨hX.os.trans hB.os.symm, hX.tape.trans hB.tape.symm, hX.output.trans hB.output.symm, Nat.le_trans hF.1 (by simp), fun k hk hne => (World.putObj_heap_other (by omega)).trans (hF.2 k hk (fun e => hne (by rw [e])))⟩
set_option maxHeartbeats 4000000 in
theorem nextSets_any (v : Int) (x y : Option Addr) (g c1 c2 c3 base : Nat) (S : List (ByteArray × Int)) (E : List Int) (W00 w : World) (hs : schB S = true) (hS : SIn W00 x c1 S) (hL : Rd W00 y (iC (lwL (bnS S v)))) (hB : Below W00.heap.size W00 w) (hbase : W00.heap.size ≤ base) (hl : E.length = S.length) (hE : ∀ n ∈ E, 0 ≤ n ∧ n ≤ 255) (hr : w.ownsRow base 3 1 (.slice (some ⟨g, 0, none⟩) S.length c3) S.length (iC E)) :
    Calls Try.prog 173 #[.slice x S.length c1, .slice y S.length c2, .slice (some ⟨g, 0, none⟩) S.length c3] w fun e w' => ∃ E', e = .returned (.bool (nxL (bnS S v) E).isSome) ∧ w'.ownsRow base 3 1 (.slice (some ⟨g, 0, none⟩) S.length c3) S.length (iC E') ∧ (∀ F, nxL (bnS S v) E = some F → E' = F) ∧ w.grownBy w' (some g) := by
  obtain ⟨b, off, rfl, hbl, hcs⟩ := sin_box hS hs
  have hsl := schB_len hs
  have hsh := Lib.hid hs
  have hcsh := Lib.hid hcs
  have hBs := hB.size
  clear hcs
  refine (callsIn_wide (n := 5)).1 ?_
  refine callsIn_of_wp_marks Try.func173 rfl trivial ?_ rfl
  simp only [Try.ntmps173, List.size_toArray, List.length_cons, List.length_nil, Nat.reduceAdd, Nat.reduceSub, Array.replicate_succ, Array.replicate_zero, List.push_toArray, List.append_toArray, List.nil_append, List.cons_append]
  refine wpIn_wide.2 ?_
  go_wp2_with (go_at_call 186; refine (bw_any _ _ _ _).mono ?_; rintro e w' ⟨rfl, rfl⟩)
  have bL0 := (((Boxed.new w 24 (.slice y S.length c2)).alloc (.cells #[.slice (some ⟨g, 0, none⟩) S.length c3] 24)).alloc (.cells #[.bool false] 4)).alloc (.cells #[.slice (some ⟨b, off, none⟩) S.length c1] 29)
  have bS0 := ((Boxed.new (w.alloc (.cells #[.slice y S.length c2] 24)) 24 (.slice (some ⟨g, 0, none⟩) S.length c3)).alloc (.cells #[.bool false] 4)).alloc (.cells #[.slice (some ⟨b, off, none⟩) S.length c1] 29)
  have bR0 := (Boxed.new ((w.alloc (.cells #[.slice y S.length c2] 24)).alloc (.cells #[.slice (some ⟨g, 0, none⟩) S.length c3] 24)) 4 (.bool false)).alloc (.cells #[.slice (some ⟨b, off, none⟩) S.length c1] 29)
  have bX0 := Boxed.new (((w.alloc (.cells #[.slice y S.length c2] 24)).alloc (.cells #[.slice (some ⟨g, 0, none⟩) S.length c3] 24)).alloc (.cells #[.bool false] 4)) 29 (.slice (some ⟨b, off, none⟩) S.length c1)
  have hr0 := (((hr.alloc (.cells #[.slice y S.length c2] 24)).alloc (.cells #[.slice (some ⟨g, 0, none⟩) S.length c3] 24)).alloc (.cells #[.bool false] 4)).alloc (.cells #[.slice (some ⟨b, off, none⟩) S.length c1] 29)
  have hbw : Below w.heap.size w ((((w.alloc (.cells #[.slice y S.length c2] 24)).alloc (.cells #[.slice (some ⟨g, 0, none⟩) S.length c3] 24)).alloc (.cells #[.bool false] 4)).alloc (.cells #[.slice (some ⟨b, off, none⟩) S.length c1] 29)) := (by repeat (first | exact Below.refl _ _ | assumption | refine Below.drew ?_ | refine below_drewN ?_ _ | refine Below.alloc' ?_ _ | (refine Below.setCell ?_ (by first | omega | (simp; done) | (simp; omega) | exact Below.size (by assumption) | exact Nat.le_trans (Below.size (by assumption)) (by simp)) _) | (refine Below.via' ?_ (by assumption)) | (refine Below.alloc ?_ (by first | omega | (simp; done) | (simp; omega) | exact Below.size (by assumption) | exact Nat.le_trans (Below.size (by assumption)) (by simp)) _) | (refine Below.via ?_ (by assumption) (by first | omega | (simp; done) | (simp; omega) | exact Below.size (by assumption) | exact Nat.le_trans (Below.size (by assumption)) (by simp)))))
  have hB0 := hB.trans (hbw.mono hBs)
  have hF0 : FrG g w ((((w.alloc (.cells #[.slice y S.length c2] 24)).alloc (.cells #[.slice (some ⟨g, 0, none⟩) S.length c3] 24)).alloc (.cells #[.bool false] 4)).alloc (.cells #[.slice (some ⟨b, off, none⟩) S.length c1] 29)) := ⟨hbw.size, fun k hk _ => hbw.block k hk⟩
  have hglt := own_lt hr
  simp only [World.size_alloc] at bS0 bR0 bX0
  have hsz : ((((w.alloc (.cells #[.slice y S.length c2] 24)).alloc (.cells #[.slice (some ⟨g, 0, none⟩) S.length c3] 24)).alloc (.cells #[.bool false] 4)).alloc (.cells #[.slice (some ⟨b, off, none⟩) S.length c1] 29)).heap.size = w.heap.size + 4 := by simp
  obtain ⟨W0, hW0⟩ : ∃ W0, (((w.alloc (.cells #[.slice y S.length c2] 24)).alloc (.cells #[.slice (some ⟨g, 0, none⟩) S.length c3] 24)).alloc (.cells #[.bool false] 4)).alloc (.cells #[.slice (some ⟨b, off, none⟩) S.length c1] 29) = W0 := ⟨_, rfl⟩
  rw [hW0] at bL0 bS0 bR0 bX0 hr0 hB0 hF0 hsz ⊢
  have hnB := bn_len S v
  have hLh := Lib.hid hL
  have hEh := Lib.hid hE
  have hlh := Lib.hid hl
  have hBh := Lib.hid hB
  clear hW0 hbw hr hL hE hS hB
  refine (wpIn_wide (n := 5)).1 ?_
  refine wpIn_rangeFunc_ownH (F := Fence.wide) (n := 5) rfl (by omega) (gf := 192) (lb := #[.pointer (some ⟨w.heap.size + 1 + 1 + 1, 0, none⟩)]) rfl trivial (enters_of Try.func192 (by kernel_rfl) rfl)
    (bwp_stops Fence.wide 4 trivial rfl (by omega) (w.heap.size + 1 + 1 + 1) W00.heap.size b off c1 S hsl.2 hbl W0 hB0.size bX0 (fun j hj => ⟨(hB0.cell (p := ⟨b, off + j * 2, none⟩) hbl).trans (hcsh.out j hj).1, (hB0.cell (p := ⟨b, off + j * 2 + 1, none⟩) hbl).trans (hcsh.out j hj).2⟩))
    (fun h k => ⟨h.1.trans k.1, k.2.trans h.2⟩) (fun W l o o' hl hlo hc hw => ⟨belowK_b hB0.size W l o o' hl hlo hc hw, World.putObj_heap_other (by intro e; omega)⟩) (Below.refl _ _) (fun _ => rfl)
    (fun pre W => ((((((∃ E2, W.ownsRow base 3 1 (.slice (some ⟨g, 0, none⟩) S.length c3) S.length (iC E2) ∧ E2.length = S.length ∧ (∀ n ∈ E2, 0 ≤ n ∧ n ≤ 255) ∧ (BwOrd pre → E2 = rsL (bnS S v) E (S.length - pre.length) ∧ nxL ((bnS S v).drop (S.length - pre.length)) (E.drop (S.length - pre.length)) = none)) ∧ Boxed W w.heap.size 24 (.slice y S.length c2)) ∧ Boxed W (w.heap.size + 1) 24 (.slice (some ⟨g, 0, none⟩) S.length c3)) ∧ Boxed W (w.heap.size + 1 + 1) 4 (.bool false)) ∧ Boxed W (w.heap.size + 1 + 1 + 1) 29 (.slice (some ⟨b, off, none⟩) S.length c1)) ∧ Below W00.heap.size W00 W) ∧ FrG g w W)
    (fun c pre W => (((c = Code.ret ∧ (∃ E2, W.ownsRow base 3 1 (.slice (some ⟨g, 0, none⟩) S.length c3) S.length (iC E2) ∧ (BwOrd pre → nxL (bnS S v) E = some E2))) ∧ Boxed W (w.heap.size + 1 + 1) 4 (.bool true)) ∧ Below W00.heap.size W00 W) ∧ FrG g w W)
    (OwnFrom.and (OwnFrom.and (OwnFrom.and (OwnFrom.and (OwnFrom.and (OwnFrom.and (fun pre A B row hs hg hr => by obtain ⟨E2, h1, h2⟩ := hs; exact ⟨E2, own_cells h1 hg (fun r e => (hr r e).2), h2⟩) (Own.from (boxed_own _ _ _) _)) (Own.from (boxed_own _ _ _) _)) (Own.from (boxed_own _ _ _) _)) (Own.from (boxed_own _ _ _) _)) (ownFrom_below (Nat.le_refl _) (by omega))) (frG_own (by omega)))
    (fun c => OwnFrom.and (OwnFrom.and (OwnFrom.and (fun pre A B row hs hg hr => by obtain ⟨e1, E2, h1, h2⟩ := hs; exact ⟨e1, E2, own_cells h1 hg (fun r e => (hr r e).2), h2⟩) (Own.from (boxed_own _ _ _) _)) (ownFrom_below (Nat.le_refl _) (by omega))) (frG_own (by omega)))
    ⟨⟨⟨⟨⟨⟨⟨E, hr0, hlh.out, hEh.out, fun _ => ⟨by rw [List.length_nil, Nat.sub_zero, ← hlh.out, rs_all (by rw [hnB, hlh.out])], by rw [List.length_nil, Nat.sub_zero, List.drop_eq_nil_of_le (by omega), List.drop_eq_nil_of_le (by have := hlh.out; omega)]; rfl⟩⟩, bL0⟩, bS0⟩, bR0⟩, bX0⟩, hB0⟩, hF0⟩
    (fun z a' W => ∃ Bx, w.heap.size + 3 < Bx ∧ Wb W Bx 93 #[.string (nmA S z.1), .int .i64 (lvA S z.1)] ∧ a' = { tmps := #[.slice (some ⟨b, off, none⟩) S.length c1, .slice y S.length c2, .slice (some ⟨g, 0, none⟩) S.length c3, undef, .pointer (some ⟨w.heap.size, 0, none⟩), .pointer (some ⟨w.heap.size + 1, 0, none⟩), .pointer (some ⟨w.heap.size + 1 + 1, 0, none⟩), .int .i64 (z.1 : Int), .pointer (some ⟨Bx, 0, none⟩), .slice (some ⟨b, off, none⟩) S.length c1, .func (.func 192) #[] #[.pointer (some ⟨w.heap.size + 1 + 1 + 1, 0, none⟩)], .int .i64 (z.1 : Int), .agg #[.string (nmA S z.1), .int .i64 (lvA S z.1)], undef, undef, undef, undef, undef, undef, undef, undef, undef, undef, undef, undef, undef, undef, undef, undef, undef, undef, undef, undef], defers := [] })
    (fun z a' _ X Y row hs hg hr => by obtain ⟨Bx, h1, h2, h3⟩ := hs; exact ⟨Bx, h1, wb_kept h2 hg (fun r e => (hr r e).2), h3⟩)
    ?assign ?body ?done ?stop
  case assign =>
    rintro l pre z W K ⟨⟨⟨⟨⟨⟨⟨E2, r1, hp⟩, b1⟩, b2⟩, b3⟩, b4⟩, hB1⟩, hF1⟩ hK
    have h4 := b4.lt
    have hp := Lib.hid hp
    gi_wp2
    exact hK _ _ ((KeepsOthers.alloc _ _).from _) ⟨(Below.refl _ W).alloc hB1.size _, Below.heap_alloc W _ _ h4⟩ ⟨⟨⟨⟨⟨⟨⟨E2, r1.alloc _, hp.out⟩, b1.alloc _⟩, b2.alloc _⟩, b3.alloc _⟩, b4.alloc _⟩, hB1.alloc hB1.size _⟩, Nat.le_trans hF1.1 (by simp), fun k hk hne => (Below.heap_alloc W _ _ (Nat.lt_of_lt_of_le hk hF1.1)).trans (hF1.2 k hk hne)⟩ ⟨W.heap.size, h4, Wb.new W _ _, rfl⟩
  case body =>
    rintro l pre z a' W hl ⟨r, hr⟩ ⟨⟨⟨⟨⟨⟨⟨E2, r1, hl2, hbd, hord⟩, b1⟩, b2⟩, b3⟩, b4⟩, hB1⟩, hF1⟩ ⟨Bx, hBx, bX, rfl⟩ hlt
    have hz := z.2
    obtain ⟨n0, hn0⟩ : ∃ n0, E2[z.1]? = some n0 := ⟨_, List.getElem?_eq_getElem (by omega)⟩
    have hn0b := hbd n0 (List.mem_of_getElem? hn0)
    obtain ⟨u, hu, k0⟩ := own_cell r1 (j := z.1) (by omega)
    obtain rfl : u = .int .i64 n0 := Option.some.inj (hu.symm.trans (iC_at hn0))
    have k2 := r1.frozenAt z.1
    have c2' := b2.cell
    have cX0 := bX.read 0
    have cX1 := bX.read 1
    have hz' : (z.1 : Int) < (S.length : Int) := by omega
    have hz0 : (0 : Int) ≤ (z.1 : Int) := by omega
    have hlv := lvA_bd hsh.out hz
    have r1h := Lib.hid r1
    have b1h := Lib.hid b1
    have b2h := Lib.hid b2
    have b3h := Lib.hid b3
    have b4h := Lib.hid b4
    have hB1h := Lib.hid hB1
    have hF1h := Lib.hid hF1
    have hordh := Lib.hid hord
    have hbdh := Lib.hid hbd
    have hn0h := Lib.hid hn0
    have hl2h := Lib.hid hl2
    clear r1 b1 b2 b3 b4 hB1 hF1 hord hbd hn0 hl hr hl2
    have hgW := hglt.1
    have hw1 : IntKind.i64.wrap (n0 + 1) = n0 + 1 := IntWalk.i64_in _ (by omega)
    have hBz := Lib.hid (bn_at (v := v) hz)
    have hnb := bn_bd v hsh.out hz
    gi_wp2
    gi_cut [19] from 13 (fun s19 wx => s19 = .bool (decide (n0 < flZ (lvA S z.1))) ∧ Below W.heap.size W wx)
    case first =>
      gi_region_with (refine ⟨trivial, ?_⟩; refine (CallsIn.inRound l (callsIn_wide.2 (setOfAll_any _ _ _ hlv))).mono ?_; rintro e w3 ⟨rfl, hb3⟩; (have hbx : Below W.heap.size W w3 := (by first | exact hb3 | exact ((Below.refl _ W).drew).trans hb3)); (have d2 := (boxed_below b2h.out hbx).cell); (obtain ⟨u3, hu3, q0⟩ := own_cell (own_below r1h.out hbx) (j := z.1) (by omega)); (obtain rfl : u3 = .int .i64 n0 := Option.some.inj (hu3.symm.trans (iC_at hn0h.out))))
      all_goals
        gi_wp2_with fail
        gi_meet
        exact ⟨rfl, hbx⟩
    obtain ⟨rfl, hbx⟩ := hcut
    obtain ⟨w3, rfl⟩ : ∃ x : World, x = wc := ⟨_, rfl⟩
    have hbs3 := hbx.size
    have r3 := own_below r1h.out hbx
    have l3 := boxed_below b1h.out hbx
    have s3 := boxed_below b2h.out hbx
    have t3 := boxed_below b3h.out hbx
    have x3 := boxed_below b4h.out hbx
    have B3 := hB1h.out.trans (hbx.mono hB1h.out.size)
    have F3 : FrG g w w3 := ⟨Nat.le_trans hF1h.out.1 hbx.size, fun k hk hne => (hbx.block k (Nat.lt_of_lt_of_le hk hF1h.out.1)).trans (hF1h.out.2 k hk hne)⟩
    have K3 : KeepsFrom W0.heap.size W w3 := KeepsFrom.of_grownBy (grown_belowE hbx) (by intro j hj; cases hj)
    have X3 : KpB W00.heap.size (w.heap.size + 1 + 1 + 1) W w3 := ⟨hbx.mono hB1h.out.size, hbx.block _ b4h.out.lt⟩
    obtain ⟨u3, hu3, q0⟩ := own_cell r3 (j := z.1) (by omega)
    obtain rfl : u3 = .int .i64 n0 := Option.some.inj (hu3.symm.trans (iC_at hn0h.out))
    have q2 := r3.frozenAt z.1
    have e1 := l3.cell
    have e2 := s3.cell
    have e3 := t3.cell
    have f3 := t3.frozen
    have hne1 : g ≠ w.heap.size + 1 + 1 := by omega
    have r3h := Lib.hid r3
    have l3h := Lib.hid l3
    have s3h := Lib.hid s3
    have t3h := Lib.hid t3
    have x3h := Lib.hid x3
    have B3h := Lib.hid B3
    have F3h := Lib.hid F3
    have K3h := Lib.hid K3
    have X3h := Lib.hid X3
    have hset : ∀ m : Int, (iC E2).set z.1 (.int .i64 m) = iC (E2.set z.1 m) := fun m => by unfold iC; rw [List.map_set]
    replace hset := Lib.hid hset
    have hEx : Hid (BwOrd (pre ++ [z]) → E[z.1]? = some n0 ∧ nxL ((bnS S v).drop (z.1 + 1)) (E.drop (z.1 + 1)) = none ∧ E2 = rsL (bnS S v) E (z.1 + 1) ∧ S.length - (pre ++ [z]).length = z.1) := fun ho => by
      obtain ⟨o1, o2⟩ := ord_step ho hlt
      have e0 : S.length - pre.length = z.1 + 1 := by omega
      obtain ⟨h1, h2⟩ := hordh.out o1
      rw [e0] at h1 h2
      have h3 : E[z.1]? = some (E[z.1]'(by have := hlh.out; omega)) := List.getElem?_eq_getElem (by have := hlh.out; omega)
      have h4 := rs_at (B := bnS S v) h3
      rw [← h1, hn0h.out] at h4
      refine ⟨by rw [h3, ← h4], h2, h1, by rw [List.length_append, List.length_singleton]; omega⟩
    clear hbx r3 l3 s3 t3 x3 B3 F3 K3 X3 hu3 hordh
    by_cases hk : n0 < flZ (lvA S z.1)
    · have hkd : decide (n0 < flZ (lvA S z.1)) = true := decide_eq_true hk
      rw [hkd]
      gi_wp2
      refine ⟨?_, ?_⟩
      · exact K3h.out.trans (((KeepsOthers.setCell _ _ _).from _).trans ((KeepsOthers.setCell _ _ _).from _))
      · refine ⟨⟨⟨⟨rfl, E2.set z.1 (n0 + 1), ?_, fun ho => ?_⟩, ?_⟩, ?_⟩, ?_⟩
        · have h0 := (r3h.out.stored z.1 (.int .i64 (n0 + 1))).1
          rw [hset.out] at h0
          exact h0.kept (grownBy_setCell' _ _ _) (.inr (fun e => hne1 (by injection e)))
        · obtain ⟨o1, o2, o3, _⟩ := hEx.out ho
          rw [nx_hit (by rw [hlh.out, hnB]) o1 hBz.out o2 hk, o3]
        · exact (boxed_far t3h.out ⟨g, z.1, none⟩ (Ne.symm hne1) (.int .i64 (n0 + 1))).set (.bool true)
        · exact (B3h.out.setCell (p := ⟨g, z.1, none⟩) (Nat.le_trans hbase hgW) _).setCell (p := ⟨w.heap.size + 1 + 1, 0, none⟩) (by show W00.heap.size ≤ w.heap.size + 1 + 1; omega) _
        · exact ⟨Nat.le_trans F3h.out.1 (by simp), fun k hk2 hne => (Below.heap_setCell _ _ _ _ (by show k ≠ w.heap.size + 1 + 1; omega)).trans ((Below.heap_setCell _ _ _ _ hne).trans (F3h.out.2 k hk2 hne))⟩
    · have hkd : decide (n0 < flZ (lvA S z.1)) = false := decide_eq_false hk
      rw [hkd]
      obtain ⟨bl2, off2, m0, rfl, hbl2, hLm, hcm⟩ := (hLh.out.below B3h.out).int (i := z.1) (by rw [lw_len, hnB]; exact hz)
      have hm0 : m0 = bnA S v z.1 := by
        have h0 := hLm
        unfold lwL at h0
        rw [List.getElem?_map, hBz.out] at h0
        exact (Option.some.inj h0).symm
      subst hm0
      clear hLm
      gi_wp2
      gi_region
      all_goals
        gi_wp2
        refine ⟨?_, ?_, ?_⟩
        · exact K3h.out.trans (((KeepsOthers.setCell _ _ _).trans (KeepsOthers.drew _)).from _)
        · exact ⟨X3h.out.1.trans (Below.drew ((Below.refl _ w3).setCell (p := ⟨g, z.1, none⟩) (Nat.le_trans hbase hgW) _)), (Below.heap_setCell _ _ _ _ (by show w.heap.size + 1 + 1 + 1 ≠ g; omega)).trans X3h.out.2⟩
        · refine ⟨⟨⟨⟨⟨⟨⟨E2.set z.1 (bnA S v z.1), ?_, by rw [List.length_set, hl2h.out], fun n hn => ?_, fun ho => ?_⟩, ?_⟩, ?_⟩, ?_⟩, ?_⟩, ?_⟩, ?_⟩
          · have h0 := (r3h.out.stored z.1 (.int .i64 (bnA S v z.1))).1
            rw [hset.out] at h0
            exact h0.drew
          · rcases List.mem_or_eq_of_mem_set hn with h0 | h0
            · exact hbdh.out n h0
            · omega
          · obtain ⟨o1, o2, o3, o4⟩ := hEx.out ho
            rw [o4]
            exact ⟨by rw [o3]; exact rs_back o1 hBz.out, nx_miss o1 hBz.out o2 (by omega)⟩
          · exact boxed_far l3h.out ⟨g, z.1, none⟩ (by show w.heap.size ≠ g; omega) _
          · exact boxed_far s3h.out ⟨g, z.1, none⟩ (by show w.heap.size + 1 ≠ g; omega) _
          · exact boxed_far t3h.out ⟨g, z.1, none⟩ (Ne.symm hne1) _
          · exact boxed_far x3h.out ⟨g, z.1, none⟩ (by show w.heap.size + 1 + 1 + 1 ≠ g; omega) _
          · exact Below.drew (B3h.out.setCell (p := ⟨g, z.1, none⟩) (Nat.le_trans hbase hgW) _)
          · exact ⟨Nat.le_trans F3h.out.1 (by simp), fun k hk2 hne => (Below.heap_setCell _ _ _ _ hne).trans (F3h.out.2 k hk2 hne)⟩
  case done =>
    rintro D ys W hD ⟨hys, hyl⟩ ⟨⟨⟨⟨⟨⟨⟨E2, r1, hl2, hbd, hord⟩, b1⟩, b2⟩, b3⟩, b4⟩, hB1⟩, hF1⟩ hK
    obtain ⟨e1, e2⟩ := hord hys
    rw [hyl, Nat.sub_self, List.drop_zero, List.drop_zero] at e2
    have c3' := b3.cell
    have f3' := b3.frozen
    have hres := Lib.hid (b3.set (.bool false))
    have hK2 : (W.setCell ⟨w.heap.size + 1 + 1, 0, none⟩ (.bool false)).heap[D]? = some (.deferred (some [])) := (Below.heap_setCell _ _ _ _ (by show D ≠ w.heap.size + 1 + 1; omega)).trans hK
    have hneW : (Value.slice (some ⟨g, 0, none⟩) S.length c3).ownBlock ≠ some (w.heap.size + 1 + 1) := fun e => by
      have e0 : g = w.heap.size + 1 + 1 := by injection e
      omega
    have hfin : Hid ((W.setCell ⟨w.heap.size + 1 + 1, 0, none⟩ (.bool false)).ownsRow base 3 1 (.slice (some ⟨g, 0, none⟩) S.length c3) S.length (iC E2)) := r1.kept (grownBy_setCell' _ _ _) (.inr (hneW))
    have hBf := Lib.hid (hB1.setCell (p := ⟨w.heap.size + 1 + 1, 0, none⟩) (by show W00.heap.size ≤ w.heap.size + 1 + 1; omega) (.bool false))
    have hFf : Hid (FrG g w (W.setCell ⟨w.heap.size + 1 + 1, 0, none⟩ (.bool false))) := ⟨Nat.le_trans hF1.1 (by simp), fun k hk hne => (Below.heap_setCell _ _ _ _ (by show k ≠ w.heap.size + 1 + 1; omega)).trans (hF1.2 k hk hne)⟩
    have e2h := Lib.hid e2
    clear r1 b1 b2 b3 b4 hB1 hF1 hord hbd e1 e2
    go_wp2
    refine ⟨by simp, .inl ⟨_, _, rfl, run_takeDeferred hK2, ?_⟩⟩
    refine ⟨_, res1_read ((World.putObj_heap_other (by omega)).trans hres.out) _ rfl, E2, by rw [e2h.out]; rfl, ownsRow_putObj hfin.out _ hK2 rfl, (fun F hF => by rw [e2h.out] at hF; cases hF), grown_ofG hBh.out hBf.out hFf.out (by omega) _⟩
  case stop =>
    rintro D c pre W hD ⟨hpo, hpl⟩ ⟨⟨⟨⟨rfl, E2, r1, hord⟩, b3⟩, hB1⟩, hF1⟩ hK
    have e2 := hord hpo
    have c3' := b3.cell
    have e2h := Lib.hid e2
    have r1h := Lib.hid r1
    have hB1h := Lib.hid hB1
    have hF1h := Lib.hid hF1
    have b3h := Lib.hid b3
    clear e2 r1 hB1 hF1 hord b3
    gi_wp2
    refine ⟨by simp, .inl ⟨_, _, rfl, run_takeDeferred hK, ?_⟩⟩
    exact ⟨_, res1_read ((World.putObj_heap_other (by omega)).trans b3h.out) _ rfl, E2, by rw [e2h.out]; rfl, ownsRow_putObj r1h.out _ hK rfl, (fun F hF => by rw [e2h.out] at hF; exact Option.some.inj hF), grown_ofG hBh.out hB1h.out hF1h.out (by omega) _⟩
end Go.Proofs.Ytgkaalonmkcclab

namespace Go.Proofs.Ytgkaalonmkcclab
open Go.RowKit Go.Shelf
set_option maxRecDepth 100000

/-- What such an iterator promises: its own blocks end at hi; at each yield J holds of what has come and R of what is handed over; between yields it writes its own blocks alone. -/
def GapSeq {β : Type} (n : Nat) (P : Program) (gf : Nat) (lb : Array Value) (val : β → Value) (Kp : Nat → World → World → Prop) (R : Nat → List β → β → World → Prop) (S : List β → Prop) (w : World) : Prop :=
  ∀ (l : Nat) (J Jx : Nat → List β → World → Prop) (W : World), Below w.heap.size w W → (∀ hi, OwnFrom W.heap.size (J hi)) → (∀ hi, OwnFrom W.heap.size (Jx hi)) →
    (∀ hi pre A B g, J hi pre A → A.grownBy B (some g) → W.heap.size ≤ g → g < hi → J hi pre B) →
    (∀ hi pre x W1, W.heap.size ≤ hi → J hi pre W1 → R hi pre x W1 → YieldAt Fence.wide (n - 1) P l #[val x] W1 fun e W' => KeepsFrom W.heap.size W1 W' ∧ ((e = .returned (.bool true) ∧ J hi (pre ++ [x]) W' ∧ Kp hi W1 W') ∨ (e = .returned (.bool false) ∧ Jx hi (pre ++ [x]) W'))) →
    (∀ hi W1, W.grownBy W1 none → W.heap.size ≤ hi → hi ≤ W1.heap.size → J hi [] W1) →
    CallsIn Fence.wide n P gf (#[.func (.yield l) #[] #[]] ++ lb) W fun e W' => (∃ v, e = .returned v) ∧ ((∃ hi ys, S ys ∧ J hi ys W') ∨ ∃ hi pre, Jx hi pre W')

theorem range_gap {β : Type} {n : Nat} {P : Program} {g : Operand} {ps : Array Tmp} {assign body : Code} {Q : Exit → Act → World → Prop} {a : Act} {w w0 : World} {gf : Nat} {lb : Array Value} (h1 : 1 ≤ n)
    (hg : a.eval g = .func (.func gf) #[] lb) (eg : ∀ args w, (callFunc gf args).run P w = .ok (.enter gf args) w) (hps : ps.size = 1)
    (val : β → Value) (Kp : Nat → World → World → Prop) (R : Nat → List β → β → World → Prop) (S : List β → Prop) (hit : GapSeq (n - 1) P gf lb val Kp R S w0) (hb0 : Below w0.heap.size w0 w)
    (hKt : ∀ (hi : Nat) (A B C : World), Kp hi A B → Kp hi B C → Kp hi A C) (hKb : ∀ (hi : Nat) (W : World) (l : Nat) (o o' : Obj), w.heap.size ≤ l → W.heap[l]? = some o → o.isCells = false → o.isWalk = false → Kp hi W (W.putObj l o'))
    (I Ix : Nat → List β → World → Prop) (hI : ∀ hi, OwnFrom w.heap.size (I hi)) (hIx : ∀ hi, OwnFrom w.heap.size (Ix hi)) (hIg : ∀ hi pre A B g, I hi pre A → A.grownBy B (some g) → w.heap.size ≤ g → g < hi → I hi pre B) (h0 : ∀ hi, w.heap.size ≤ hi → I hi [] w) (Ax : Nat → List β → β → Act → World → Prop) (hAx : ∀ hi pre x a', OwnFrom w.heap.size (fun (_ : Unit) W => Ax hi pre x a' W))
    (hassign : ∀ (hi l : Nat) (pre : List β) (x : β) (W : World) (K : Act → World → Prop), w.heap.size + 2 ≤ hi → I hi pre W → R hi pre x W → (∀ a' W', KeepsFrom w.heap.size W W' → Kp hi W W' → I hi pre W' → Ax hi pre x a' W' → K a' W') →
      assign.wpIn (Fence.wide.inRound l) (n - 1 - 1) P (Exit.then K (fun _ _ _ => False)) { tmps := (ps.zip #[val x]).foldl (fun t (p, v) => t.setIfInBounds p v) a.tmps, defers := [] } W)
    (hbody : ∀ (hi l : Nat) (pre : List β) (x : β) (a' : Act) (W : World), w.heap.size + 2 ≤ hi → w.heap.size ≤ l → (∃ r, W.heap[l]? = some (.loop r)) → I hi pre W → Ax hi pre x a' W → body.wpIn (Fence.wide.inRound l) (n - 1 - 1) P (RowPost w.heap.size (Kp hi) (I hi) (Ix hi) (pre ++ [x]) W) a' W)
    (hdone : ∀ (hi : Nat) (ys : List β) (W : World), S ys → I hi ys W → W.heap[w.heap.size]? = some (.deferred (some [])) → Q .normal { a with defers := { target := .collected w.heap.size, args := #[] } :: a.defers } W)
    (hstop : ∀ (hi : Nat) (pre : List β) (W : World), Ix hi pre W → W.heap[w.heap.size]? = some (.deferred (some [])) → Code.ret.wpIn Fence.wide n P Q { a with defers := { target := .collected w.heap.size, args := #[] } :: a.defers } W) :
    (Code.rangeFunc g ps assign body).wpIn Fence.wide n P Q a w := by
  refine wpIn_rangeFunc ?_
  intro fn hfn
  rw [show Fence.wide.round = none from rfl]
  let r : LoopState → Option Code → Loop := fun st pe => { state := st, pending := pe, fn := fn, tmps := a.tmps, params := ps, assign := assign, body := body, defers := w.heap.size }
  let W1 := (w.alloc (.deferred (some []))).alloc (.loop (r .ready none))
  have hsz : (w.alloc (.deferred (some []))).heap.size = w.heap.size + 1 := World.size_alloc _ _
  have hL : W1.heap[w.heap.size + 1]? = some (.loop (r .ready none)) := by rw [← hsz]; exact World.alloc_heap_new _ _
  have hD : W1.heap[w.heap.size]? = some (.deferred (some [])) := (Below.heap_alloc _ _ _ (by omega)).trans (World.alloc_heap_new w _)
  have hs1 : W1.heap.size = w.heap.size + 2 := by show ((w.alloc _).alloc _).heap.size = _; rw [World.size_alloc, World.size_alloc]
  have hIW : ∀ hi, W1.heap.size ≤ hi → I hi [] W1 := fun hi hh => (hI hi).alloc _ ((hI hi).alloc _ (h0 hi (by omega)))
  have hbW : Below w0.heap.size w0 W1 := hb0.trans (((Below.refl _ w).alloc (Nat.le_refl _) _ |>.alloc (by omega) _).mono hb0.size)
  refine ⟨w.heap.size + 1, [{ target := .collected w.heap.size, args := #[] }], W1, { target := .fn (.func gf) lb, args := #[.func (.yield (w.heap.size + 1)) #[] #[]] }, W1, gf, #[.func (.yield (w.heap.size + 1)) #[] #[]] ++ lb, W1, run_enterLoop_outer _ _ _ _ _, ?_, fun _ _ => trivial, ?_, fun _ => h1, ?_⟩
  · simp only [resolve, hg]
    simp [go_sem]
  · simp [invoke, go_sem, eg]
  refine (hit (w.heap.size + 1) (fun hi pre W => I hi pre W ∧ W.heap[w.heap.size + 1]? = some (.loop (r .ready none)) ∧ W.heap[w.heap.size]? = some (.deferred (some [])))
    (fun hi pre W => Ix hi pre W ∧ W.heap[w.heap.size + 1]? = some (.loop (r .done (some .ret))) ∧ W.heap[w.heap.size]? = some (.deferred (some []))) W1 hbW ?_ ?_ ?_ ?_ ?_).mono ?_
  · rintro hi pre A B row ⟨i, l, d⟩ hgr hrow
    exact ⟨hI hi pre A B row i hgr (fun k hk => ⟨by have := (hrow k hk).1; omega, (hrow k hk).2⟩), (hgr.block _ (Array.getElem?_eq_some_iff.1 l).1 (fun h => by have := (hrow _ h.symm).1; omega)).trans l, (hgr.block _ (Array.getElem?_eq_some_iff.1 d).1 (fun h => by have := (hrow _ h.symm).1; omega)).trans d⟩
  · rintro hi pre A B row ⟨i, l, d⟩ hgr hrow
    exact ⟨hIx hi pre A B row i hgr (fun k hk => ⟨by have := (hrow k hk).1; omega, (hrow k hk).2⟩), (hgr.block _ (Array.getElem?_eq_some_iff.1 l).1 (fun h => by have := (hrow _ h.symm).1; omega)).trans l, (hgr.block _ (Array.getElem?_eq_some_iff.1 d).1 (fun h => by have := (hrow _ h.symm).1; omega)).trans d⟩
  · rintro hi pre A B g ⟨i, l, d⟩ hgr h1 h2
    exact ⟨hIg hi pre A B g i hgr (by omega) h2, (hgr.block _ (Array.getElem?_eq_some_iff.1 l).1 (fun h => by injection h with h; omega)).trans l, (hgr.block _ (Array.getElem?_eq_some_iff.1 d).1 (fun h => by injection h with h; omega)).trans d⟩
  · rintro hi pre x W hhi ⟨i, l, d⟩ hr
    refine ⟨fn, _, assign, body, run_yield (args := #[val x]) l (by show 1 = ps.size; omega), roundIn_of_wpIn hfn (hassign hi _ pre x W _ (by omega) i hr ?_)⟩
    rintro a' Wa ka kpa ia ax
    replace l := ka.same _ _ (by omega) l rfl
    replace d := ka.same _ _ (Nat.le_refl _) d rfl
    have hlt := (Array.getElem?_eq_some_iff.1 l).1
    refine ⟨_, run_beginRound l rfl, ?_⟩
    have l2 : (Wa.putObj (w.heap.size + 1) (.loop (r .busy none))).heap[w.heap.size + 1]? = some (.loop (r .busy none)) := World.putObj_heap_same hlt
    have d2 : (Wa.putObj (w.heap.size + 1) (.loop (r .busy none))).heap[w.heap.size]? = some (.deferred (some [])) := (World.putObj_heap_other (by omega)).trans d
    refine wpIn_mono (hbody hi _ pre x a' _ (by omega) (by omega) ⟨_, l2⟩ ((hI hi).putObj _ ia (by omega) l rfl) ((hAx hi pre x a').putObj (s := ()) _ ax (by omega) l rfl)) ?_
    rintro e a3 W3 hp
    cases e with
    | normal =>
      obtain ⟨hk, hkp, hi3⟩ := hp
      have l3 := hk.same _ _ (by omega) l2 rfl
      have d3 := hk.same _ _ (Nat.le_refl _) d2 rfl
      have kp2 : Kp hi Wa (Wa.putObj (w.heap.size + 1) (.loop (r .busy none))) := hKb hi _ _ _ _ (by omega) l rfl rfl
      exact ⟨_, _, run_endRound none l3, (keeps_mono ka (by omega)).trans ((keeps_put _ _ (by omega)).trans ((keeps_mono hk (by omega)).trans (keeps_put _ _ (by omega)))), .inl ⟨rfl, ⟨(hI hi).putObj _ hi3 (by omega) l3 rfl, World.putObj_heap_same (Array.getElem?_eq_some_iff.1 l3).1, (World.putObj_heap_other (by omega)).trans d3⟩, hKt hi _ _ _ kpa (hKt hi _ _ _ (hKt hi _ _ _ kp2 hkp) (hKb hi _ _ _ _ (by omega) l3 rfl rfl))⟩⟩
    | ret =>
      obtain ⟨hk, hx⟩ := hp
      have l3 := hk.same _ _ (by omega) l2 rfl
      have d3 := hk.same _ _ (Nat.le_refl _) d2 rfl
      exact ⟨_, _, run_endRound (some .ret) l3, (keeps_mono ka (by omega)).trans ((keeps_put _ _ (by omega)).trans ((keeps_mono hk (by omega)).trans (keeps_put _ _ (by omega)))), .inr ⟨rfl, (hIx hi).putObj _ hx (by omega) l3 rfl, World.putObj_heap_same (Array.getElem?_eq_some_iff.1 l3).1, (World.putObj_heap_other (by omega)).trans d3⟩⟩
    | exit id => exact hp.elim
    | goto t => exact hp.elim
    | panic ch => exact hp.elim
    | outgrown => exact hp.elim
  · rintro hi Wx hgr h1 h2
    have hl := hL
    have hd := hD
    exact ⟨hI hi [] W1 Wx none (hIW hi h1) hgr (fun k hk => by cases hk), (hgr.block _ (Array.getElem?_eq_some_iff.1 hL).1 (fun h => by cases h)).trans hL, (hgr.block _ (Array.getElem?_eq_some_iff.1 hD).1 (fun h => by cases h)).trans hD⟩
  · rintro e W2 ⟨⟨v, rfl⟩, ⟨hi, ys, hs, i, l, d⟩ | ⟨hi, pre, hx, l, d⟩⟩
    · exact ⟨none, _, run_endLoop l (by intro h; cases h), hdone hi ys _ hs ((hI hi).putObj _ i (by omega) l rfl) ((World.putObj_heap_other (by omega)).trans d)⟩
    · exact ⟨some .ret, _, run_endLoop l (by intro h; cases h), hstop hi pre _ ((hIx hi).putObj _ hx (by omega) l rfl) ((World.putObj_heap_other (by omega)).trans d)⟩
end Go.Proofs.Ytgkaalonmkcclab

namespace Go.Proofs.Ytgkaalonmkcclab
open Go.RowKit Go.Shelf
set_option maxRecDepth 100000
attribute [local go_sem] Oper.semAt_some

/-- What the rounds leave alone: all below the end of the iterator's own memory, but for one box. -/
def KpG (n₀ Bm hi : Nat) (A B : World) : Prop := Below n₀ A B ∧ A.heap.size ≤ B.heap.size ∧ ∀ (k : Nat) (cs : Array Value) (t : Nat) (fz : Nat × Nat), A.heap[k]? = some (Obj.cells cs t fz) → k < hi → k ≠ Bm → B.heap[k]? = A.heap[k]?
theorem KpG.trans {n₀ Bm hi : Nat} {A B C : World} (h : KpG n₀ Bm hi A B) (k : KpG n₀ Bm hi B C) : KpG n₀ Bm hi A C := ⟨h.1.trans k.1, Nat.le_trans h.2.1 k.2.1, fun j cs t fz h1 h2 h3 => (k.2.2 j cs t fz ((h.2.2 j cs t fz h1 h2 h3).trans h1) h2 h3).trans (h.2.2 j cs t fz h1 h2 h3)⟩
/-- What is handed to a round: the next list of sets, in a row of its own behind the iterator's memory. -/
def EnR (S : List (ByteArray × Int)) (v : Int) (hi : Nat) (pre : List PR) (q : PR) (W : World) : Prop :=
  ((∃ post, enL (bnS S v) = eM pre ++ q.L :: post) ∧ ∀ p ∈ pre, ∀ k, p.v.ownBlock = some k → q.v.ownBlock ≠ some k) ∧ W.ownsRow hi 3 1 q.v q.L.length (iC q.L) ∧ hi ≤ W.heap.size
/-- The value of an edit. -/
def edV (q : PR) : Value := .agg #[q.v]
theorem seg_uniq {α : Type} {f : α → Option α} : ∀ (L M : List α) (x : α), SegP f x L → SegP f x M → L = M
  | [], _, _, h, _ => h.elim
  | _ :: _, [], _, _, h => h.elim
  | a :: L, b :: M, x, h, k => by
    cases hf : f x with
    | none => rw [seg_none h hf, seg_none k hf]
    | some y =>
      obtain ⟨L', e1, h1⟩ := seg_some h hf
      obtain ⟨M', e2, k1⟩ := seg_some k hf
      injection e1 with e1 e3
      injection e2 with e2 e4
      subst e1 e2 e3 e4
      rw [seg_uniq _ _ y h1 k1]
theorem seg_measure {α : Type} (f : α → Option α) : ∃ m : α → Nat, ∀ x L, SegP f x L → m x = L.length := by
  classical
  refine ⟨fun x => if h : ∃ L, SegP f x L then h.choose.length else 0, fun x L h => ?_⟩
  have hx : ∃ L, SegP f x L := ⟨L, h⟩
  show (if h : ∃ L, SegP f x L then h.choose.length else 0) = L.length
  rw [dif_pos hx, seg_uniq _ _ x hx.choose_spec h]
/-- The integers of a block, as they are read. -/
def rowI (W : World) (g n : Nat) : List Int := (List.range n).map fun j : Nat => match W.cell? ⟨g, j, none⟩ with
  | some (.int _ v) => v
  | _ => 0
theorem rowI_own {W : World} {base g cap n : Nat} {t : TypeId} {L : List Int} (h : W.ownsRow base t 1 (.slice (some ⟨g, 0, none⟩) n cap) n (iC L)) : rowI W g n = L := by
  have hl : L.length = n := by have := h.1; rw [iC_len] at this; omega
  apply List.ext_getElem?
  intro j
  unfold rowI
  rw [List.getElem?_map]
  by_cases hj : j < n
  · rw [List.getElem?_range hj]
    obtain ⟨u, hu, k0⟩ := own_cell h (j := j) (by omega)
    have hLj : L[j]? = some (L[j]'(by omega)) := List.getElem?_eq_getElem (by omega)
    have e := Option.some.inj (hu.symm.trans (iC_at hLj))
    subst e
    rw [hLj]
    show some (match W.cell? ⟨g, j, none⟩ with | some (.int _ v) => v | _ => 0) = _
    rw [k0]
  · rw [List.getElem?_eq_none (by rw [List.length_range]; omega), List.getElem?_eq_none (by omega)]
    rfl
set_option maxHeartbeats 4000000 in
theorem ef_rows (n : Nat) (hn : 1 ≤ n) (v : Int) (B1 B2 Bm : Nat) (x y : Option Addr) (c1 c2 : Nat) (S : List (ByteArray × Int)) (w W0 : World) (hs : schB S = true) (hS : SIn w x c1 S) (hL : Rd w y (iC (lwL (bnS S v)))) (hc2 : S.length ≤ c2) (hB0 : Below w.heap.size w W0)
    (h1z : Boxed W0 B1 24 (.slice y S.length c2)) (h2z : Boxed W0 B2 29 (.slice x S.length c1)) (hm1 : B1 ≠ Bm) (hm2 : B2 ≠ Bm) (hmw : Bm < W0.heap.size) :
    GapSeq n Try.prog 172 #[.pointer (some ⟨B1, 0, none⟩), .pointer (some ⟨B2, 0, none⟩)] edV (KpG w.heap.size Bm) (EnR S v) (fun ys => eM ys = enL (bnS S v)) W0 := by
  intro l J Jx W hW hA _ hG hY h0
  have hB := hB0.trans (hW.mono hB0.size)
  have h1 := boxed_below h1z hW
  have h2 := boxed_below h2z hW
  have hBmW : Bm < W.heap.size := Nat.lt_of_lt_of_le hmw hW.size
  have hSh := Lib.hid hS
  have hLh := Lib.hid hL
  have hsh := Lib.hid hs
  have hAh := Lib.hid hA
  have hGh := Lib.hid hG
  have hYh := Lib.hid hY
  have h0h := Lib.hid h0
  have hl6 := (schB_len hs).2
  have hl1 := (schB_len hs).1
  have hnB := bn_len S v
  have hlw := lw_len (bnS S v)
  have hc1 := h1.cell
  have hseg := Lib.hid (seg_all (bnS S v) (bn_le v hs))
  obtain ⟨by0, boff, rfl, hbl0⟩ : ∃ b off, y = some ⟨b, off, none⟩ ∧ b < w.heap.size := by
    obtain ⟨b, off, _, hy, hb, _⟩ := hL.int (i := 0) (by omega)
    exact ⟨b, off, hy, hb⟩
  clear hS hL hs hA hG hY h0 h1z h2z
  refine callsIn_of_wp Try.func172 rfl trivial ?_ rfl
  simp only [Try.ntmps172, List.size_toArray, List.length_cons, List.length_nil, Nat.reduceAdd, Nat.reduceSub, Array.replicate_succ, Array.replicate_zero, List.push_toArray, List.append_toArray, List.nil_append, List.cons_append]
  have hcl := cloneInt_any (some ⟨by0, boff, none⟩) c2 (lwL (bnS S v)) W (by omega) (by omega) (by intro h; cases h) (hLh.out.below hB)
  rw [hlw, hnB] at hcl
  have hclh := Lib.hid hcl
  clear hcl
  gi_wp2_with fail
  refine ⟨trivial, ?_⟩
  refine (callsIn_wide.2 hclh.out).mono ?_
  rintro e w1 ⟨u1, rfl, ho1, hb1⟩
  obtain ⟨g, cg, rfl⟩ := own_some ho1 (by omega)
  have hg1 := own_lt ho1
  obtain ⟨mz, hmz⟩ := seg_measure (nxL (bnS S v))
  have hmzh := Lib.hid hmz
  have hs1 := hb1.size
  have hWw := hB.size
  have J1 := h0h.out w1.heap.size w1 (grown_belowE hb1) hs1 (Nat.le_refl _)
  have b1 := (hb1.block B1 h1.lt).trans h1
  have b2 := (hb1.block B2 h2.lt).trans h2
  have l1 := h1.lt
  have l2 := h2.lt
  have B1' : Below w.heap.size w w1 := hB.trans (hb1.mono hWw)
  clear h1 h2 hb1 hc1 h0h hmz
  gi_wp2
  gi_loopw [5] (fun i wr => ∃ (m : Bool) (pre : List PR) (cur : List Int) (rest : List (List Int)), i = .bool m ∧ wr.ownsRow W.heap.size 3 1 (.slice (some ⟨g, 0, none⟩) S.length cg) S.length (iC cur) ∧ Hid (m = true → SegP (nxL (bnS S v)) cur rest ∧ enL (bnS S v) = eM pre ++ rest) ∧ Hid (m = false → eM pre = enL (bnS S v)) ∧ Hid (J w1.heap.size pre wr) ∧ Below w.heap.size w wr ∧ Hid (Boxed wr B1 24 (.slice (some ⟨by0, boff, none⟩) S.length c2)) ∧ Hid (Boxed wr B2 29 (.slice x S.length c1)) ∧ w1.heap.size ≤ wr.heap.size ∧ Hid (∀ p ∈ pre, ∀ k, p.v.ownBlock = some k → k < wr.heap.size))
    (fun i wr => match i with | .bool true => mz (rowI wr g S.length) | _ => 0)
  case atStart => exact ⟨true, [], lwL (bnS S v), enL (bnS S v), rfl, ho1, (fun _ => ⟨hseg.out, rfl⟩), (fun h => by cases h), J1, B1', b1, b2, Nat.le_refl _, fun p hp => by cases hp⟩
  case round =>
    clear J1 b1 b2 B1' ho1
    obtain ⟨m, pre, cur, rest, rfl, hrow, hon, hoff, hJ, hBr, hb1, hb2, hWr, hfr⟩ := hrel
    obtain ⟨wo, rfl⟩ : ∃ q : World, q = wr := ⟨_, rfl⟩
    cases m with
    | false =>
      have hfin := hoff.out rfl
      have hJh := hJ.out
      clear hrow hon hoff hJ hb1 hb2 hfr
      gi_wp2
      go_end0
      exact ⟨⟨_, rfl⟩, .inl ⟨_, pre, hfin, hJh⟩⟩
    | true =>
      obtain ⟨hsg, hen⟩ := hon.out rfl
      obtain ⟨rest', hrest⟩ := seg_head hsg
      have hmem : cur ∈ enL (bnS S v) := by rw [hen, hrest]; exact List.mem_append_right _ (List.mem_cons_self ..)
      have hced := en_ed hsh.out hmem
      have hcl : cur.length = S.length := ed_len hced
      have hrowI := rowI_own hrow
      have hrowh := Lib.hid hrow
      have hwr := hBr.size
      have hcln := cloneInt_any (some ⟨g, 0, none⟩) cg cur wo (by omega) (by have := (OwR.of hrow).form; obtain ⟨_, _, e, h, _⟩ := this; injection e with _ _ e; omega) (by intro h; cases h) (Rd.of_own hrow)
      rw [hcl] at hcln
      have hclnh := Lib.hid hcln
      have hsgh := Lib.hid hsg
      have henh := Lib.hid hen
      have hcedh := Lib.hid hced
      have hclh := Lib.hid hcl
      have hrowIh := Lib.hid hrowI
      have hresth := Lib.hid hrest
      clear hcln hsg hen hced hcl hrowI hrow hmem hrest hon hoff
      gi_wp2_with fail
      refine ⟨trivial, ?_⟩
      refine (callsIn_wide.2 hclnh.out).mono ?_
      rintro e w2 ⟨u2, rfl, ho2, hb2'⟩
      obtain ⟨x2, n2, rfl, -, -⟩ := (OwR.of ho2).form
      have J2 := hAh.out _ _ _ _ none hJ.out (grown_belowE hb2') (by intro r hr; cases hr)
      have row2 := own_below hrowh.out hb2'
      have d1 : Boxed w2 B1 24 (.slice (some ⟨by0, boff, none⟩) S.length c2) := (hb2'.block B1 hb1.out.lt).trans hb1.out
      have d2 : Boxed w2 B2 29 (.slice x S.length c1) := (hb2'.block B2 hb2.out.lt).trans hb2.out
      have hs2 := hb2'.size
      have BB2 : Below w.heap.size w w2 := hBr.trans (hb2'.mono hwr)
      have hq3 : w2.ownsRow wo.heap.size 3 1 (PR.mk 0 0 x2 n2 cur).v (PR.mk 0 0 x2 n2 cur).L.length (iC (PR.mk 0 0 x2 n2 cur).L) := by show w2.ownsRow wo.heap.size 3 1 (.slice x2 cur.length n2) cur.length (iC cur); rw [hclh.out]; exact ho2
      have hq2 := own_more hq3 hWr
      have hnd : ∀ p ∈ pre, ∀ k, p.v.ownBlock = some k → (PR.mk 0 0 x2 n2 cur).v.ownBlock ≠ some k := fun p hp k hk e => by have h1 := hfr.out p hp k hk; have h2 := (hq3.lt k e).1; omega
      have hfr2 : Hid (∀ p ∈ pre ++ [PR.mk 0 0 x2 n2 cur], ∀ k, p.v.ownBlock = some k → k < w2.heap.size) := fun p hp k hk => by
        rcases List.mem_append.1 hp with h | h
        · have h1 := hfr.out p h k hk
          omega
        · obtain rfl := List.mem_singleton.1 h
          exact (hq3.lt k hk).2
      obtain ⟨fn, tmps, assign, body, hy, hR⟩ := hYh.out w1.heap.size pre ⟨0, 0, x2, n2, cur⟩ w2 hs1 J2 ⟨⟨⟨rest', by rw [henh.out, hresth.out]⟩, hnd⟩, hq2, by omega⟩
      dsimp only [edV, PR.v] at hy
      rw [hclh.out] at hy
      have row2h := Lib.hid row2
      have d1h := Lib.hid d1
      have d2h := Lib.hid d2
      have BB2h := Lib.hid BB2
      clear J2 row2 d1 d2 BB2 hq2 hq3 hnd hfr ho2 hb2' hJ hb1 hb2 hrowh
      gi_wp2
      refine hR.mono ?_
      rintro e W3 ⟨-, ⟨rfl, hJ4, hk4⟩ | ⟨rfl, hJx4⟩⟩
      · obtain ⟨kb, ks, kk⟩ := hk4
        have hgB : g ≠ Bm := by omega
        have row3 : W3.ownsRow W.heap.size 3 1 (.slice (some ⟨g, 0, none⟩) S.length cg) S.length (iC cur) := by
          have h0 := row2h.out
          refine ⟨h0.1, ?_⟩
          rcases h0.2 with hn | ⟨g', cap, cu, e, hb, hgg, rest⟩
          · exact .inl hn
          · obtain rfl : g = g' := by injection e with e; injection e with e; injection e
            exact .inr ⟨g, cap, cu, e, hb, (kk g _ _ _ hgg hg1.2 hgB).trans hgg, rest⟩
        have e1 : Boxed W3 B1 24 _ := (kk B1 _ _ _ d1h.out (by omega) hm1).trans d1h.out
        have e2 : Boxed W3 B2 29 _ := (kk B2 _ _ _ d2h.out (by omega) hm2).trans d2h.out
        have BB3 := BB2h.out.trans kb
        have c1' := e1.cell
        have c2' := e2.cell
        have hnx := Lib.hid (nextSets_any v x (some ⟨by0, boff, none⟩) g c1 c2 cg W.heap.size S cur w W3 hsh.out hSh.out hLh.out BB3 hWw hclh.out (fun n hn => by
          obtain ⟨j, hj, e⟩ := List.getElem_of_mem hn
          obtain ⟨nm, lv, a, _, hb, h1, h2, _, _, h3⟩ := ed_at hsh.out hcedh.out (i := j) (by have := hclh.out; omega)
          rw [List.getElem?_eq_getElem hj, e] at hb
          cases hb
          omega) row3)
        have J3h := Lib.hid hJ4
        have e1h := Lib.hid e1
        have e2h := Lib.hid e2
        have BB3h := Lib.hid BB3
        clear hJ4 kb kk e1 e2 BB3 row3 hR hy
        gi_wp2_with fail
        refine ⟨trivial, ?_⟩
        refine (callsIn_wide.2 hnx.out).mono ?_
        rintro e w4 ⟨E', rfl, row4, hE4, hg4⟩
        have J4 := Lib.hid (hGh.out _ _ _ _ g J3h.out hg4 hg1.1 hg1.2)
        have f1 : Hid (Boxed w4 B1 24 _) := (hg4.block B1 e1h.out.lt (by intro e; injection e with e; omega)).trans e1h.out
        have f2 : Hid (Boxed w4 B2 29 _) := (hg4.block B2 e2h.out.lt (by intro e; injection e with e; omega)).trans e2h.out
        have BB4 : Below w.heap.size w w4 := BB3h.out.grown hg4 BB3h.out.size (fun k hk => by injection hk with hk; omega)
        have hs4 := hg4.size
        have hfr4 : Hid (∀ p ∈ pre ++ [PR.mk 0 0 x2 n2 cur], ∀ k, p.v.ownBlock = some k → k < w4.heap.size) := fun p hp k hk => by have h1 := hfr2.out p hp k hk; omega
        clear hfr2
        have hMe := Lib.hid hE4
        have hMr := Lib.hid row4
        clear hE4 row4 hg4 hnx
        gi_wp2
        cases hnx : nxL (bnS S v) cur with
        | none =>
          have hlast : Hid (eM (pre ++ [⟨0, 0, x2, n2, cur⟩]) = enL (bnS S v)) := by unfold Hid; rw [eM_app, henh.out, seg_none hsgh.out hnx]; rfl
          go_roundw
          case rel => exact ⟨false, _, E', [], by rfl, hMr.out, (fun h => by cases h), (fun _ => hlast.out), J4.out, BB4, f1.out, f2.out, by omega, hfr4.out⟩
          case measure =>
            show 0 < mz (rowI wo g S.length)
            rw [hrowIh.out, hmzh.out _ _ hsgh.out, hresth.out, List.length_cons]
            omega
        | some y' =>
          obtain ⟨L', hL1, hL2⟩ := seg_some hsgh.out hnx
          obtain rfl := hMe.out y' hnx
          have hnew : Hid (enL (bnS S v) = eM (pre ++ [⟨0, 0, x2, n2, cur⟩]) ++ L') := by unfold Hid; rw [eM_app, henh.out, hL1, List.append_assoc]; rfl
          go_roundw
          case rel => exact ⟨true, _, E', L', by rfl, hMr.out, (fun _ => ⟨hL2, hnew.out⟩), (fun h => by cases h), J4.out, BB4, f1.out, f2.out, by omega, hfr4.out⟩
          case measure =>
            show mz (rowI w4 g S.length) < mz (rowI wo g S.length)
            rw [hrowIh.out, hmzh.out _ _ hsgh.out, rowI_own hMr.out, hmzh.out _ _ hL2, hL1, List.length_cons]
            omega
      · gi_wp2
        refine bodyPost_ret (results_none rfl _ _ _) rfl ?_
        exact ⟨⟨_, rfl⟩, .inr ⟨_, _, hJx4⟩⟩
end Go.Proofs.Ytgkaalonmkcclab

namespace Go.Proofs.Ytgkaalonmkcclab

/-- The post, where a region ends as it should, and nothing else. -/
def OnlyN (Q : Exit → Act → World → Prop) : Exit → Act → World → Prop
  | .normal, a, w => Q .normal a w
  | _, _, _ => False

theorem OnlyN.normal {Q : Exit → Act → World → Prop} {a : Act} {w : World} (h : Q .normal a w) : OnlyN Q .normal a w := h
def noDefer (ops : Array Oper) : Bool := ops.all fun o => match o.op with | .defer _ => false | _ => true
theorem noDefer_spec {ops : Array Oper} (h : noDefer ops = true) (i : Nat) (o : Oper) (c : Call) (ho : ops[i]? = some o) : o.op ≠ .defer c := by
  intro heq
  have := Array.all_eq_true_iff_forall_mem.1 h o (Array.mem_of_getElem? ho)
  simp [heq] at this

theorem opsIn_of {P : Program} {ops : Array Oper} {Q : Exit → Act → World → Prop} {l n : Nat} (hd : noDefer ops = true) :
    ∀ (L : List Nat) (a : Act) (w : World), wpOps P ops (OnlyN Q) L a w → wpOpsIn (Fence.wide.inRound l) n P ops Q L a w := by
  intro L
  induction L with
  | nil => exact fun a w h => h
  | cons i rest ih =>
    intro a w h
    simp only [wpOps, wpOpsIn] at h ⊢
    cases ho : ops[i]? with
    | none =>
      simp only [ho] at h ⊢
      exact ih _ _ h
    | some o =>
      simp only [ho] at h ⊢
      by_cases hw : Region.wanted o (yielded ops a.tmps) = true
      · rw [if_pos hw] at h ⊢
        rcases h with h | ⟨_, a', w', hl⟩
        · refine ⟨fun _ _ => trivial, ?_⟩
          rw [Oper.semAt_eq _ _ _ (fun c => noDefer_spec hd i o c ho)]
          unfold Oper.wp at h
          generalize (execOp a.eval o).run P w = r at h ⊢
          cases r with
          | ok x w' =>
            cases x <;> simp only [Oper.upon, Oper.uponIn] at h ⊢
            case value v => exact ih _ _ h
            case skip => exact ih _ _ h
            case defer d => exact ih _ _ h
            case enter f args =>
              refine ⟨fun hx => by simp [Fence.wide] at hx, ?_⟩
              refine (CallsIn.inRound l (callsIn_wide.2 h)).mono ?_
              intro e w'' he
              cases e with
              | returned v => exact ih _ _ he
              | panicked c => exact he.elim
              | outgrown => exact (he.elim fun _ h1 => h1.elim fun _ h2 => h2.elim)
            case row row args =>
              refine ⟨fun hx => by simp [Fence.wide] at hx, ?_⟩
              intro c cs _
              obtain ⟨v, w'', hv, hs⟩ := h c cs
              exact ⟨v, w'', ih _ _ hv, (StepsIn.of_steps hs).mono fun m _ => fenced_wide P m⟩
          | halt x w' =>
            cases x <;> simp only [Oper.upon, Oper.uponIn] at h ⊢
            case panic v => exact h.elim
        · exact hl.elim
      · rw [if_neg hw] at h ⊢
        exact ⟨fun _ _ => trivial, ih _ _ h⟩

theorem wpIn_region_heldN {P : Program} {id l n : Nat} {ops : Array Oper} {Q : Exit → Act → World → Prop} {S : World → Prop} {a : Act} {w : World}
    (hm : P.follows .mixedOrders = true) (hd : noDefer ops = true) (hS : S w.drew)
    (h : S w.drew → wpAnyH P .any ops (OnlyN Q) S ops.size (Array.replicate ops.size false) a w.drew) :
    (Code.region id ops true).wpIn (Fence.wide.inRound l) n P Q a w :=
  wpIn_region_draw fun t => by
    simp only [Region.schedule, hm, Bool.true_or, if_true]
    exact opsIn_of hd _ _ _ (wpAny_sound ops.size t _ a _ (wpAny_of_held _ _ _ _ (h hS)))
end Go.Proofs.Ytgkaalonmkcclab
