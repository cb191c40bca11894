import Derived.Test.YtgkaalonmkcclaaDoorEdT
import Derived.Test.YtgkaalonmkcclaaDoorPRaB
import Derived.Test.YtgkaalonmkcclaaDoorTxt
import Derived.Test.YtgkaalonmkcclaaDoorSchN
import Derived.Test.YtgkaalonmkcclaaDoorApp
import Derived.Deep.AppendLies
import Derived.Test.YtgkaalonmkcclaaDoorEdW
import Derived.Test.YtgkaalonmkcclaaDoorShelf
import Derived.Deep.RegionLaw
import Derived.Test.YtgkaalonmkcclaaDoorRecL
import Derived.Test.YtgkaalonmkcclaaDoorSchO
import Derived.Deep.Strs
namespace Go.Proofs.YtgkaalonmkcclaaDoor
open Go.RowKit
set_option maxRecDepth 100000

/-- The conditions' words of the first n variables. -/
def cwB (W : List Int) (i : Nat) : Bool := W.getD i 0 != 0
def cwU (S : List (ByteArray × Int)) (W : List Int) (n : Nat) : List ByteArray := ((List.range n).filter (cwB W)).map (paS S W)
theorem cwU_yes {S : List (ByteArray × Int)} {W : List Int} {n : Nat} (h : cwB W n = true) : cwU S W (n + 1) = cwU S W n ++ [paS S W n] := by
  unfold cwU
  rw [List.range_succ, List.filter_append, List.map_append]
  simp [h]
theorem cwU_no {S : List (ByteArray × Int)} {W : List Int} {n : Nat} (h : cwB W n = false) : cwU S W (n + 1) = cwU S W n := by
  unfold cwU
  rw [List.range_succ, List.filter_append, List.map_append]
  simp [h]
theorem cwB_at {W : List Int} {i : Nat} {x : Int} (h : W[i]? = some x) : cwB W i = (x != 0) := by unfold cwB; rw [List.getD_eq_getElem?_getD, h]; rfl
theorem cwU_len (S : List (ByteArray × Int)) (W : List Int) (n : Nat) : (cwU S W n).length ≤ n := by
  unfold cwU
  rw [List.length_map]
  exact Nat.le_trans (List.length_filter_le _ _) (by simp)
theorem cwU_size {S : List (ByteArray × Int)} {W : List Int} (hs : schB S = true) (n : Nat) : ∀ t ∈ cwU S W n, t.size + 1 ≤ 26 := by
  intro t ht
  unfold cwU at ht
  obtain ⟨i, _, rfl⟩ := List.mem_map.1 ht
  have := paS_size (E := W) hs i
  omega
/-- The name of a variable; the names of the variables at places. -/
def naA (S : List (ByteArray × Int)) (i : Nat) : ByteArray := ((S[i]?).map (·.1)).getD ⟨#[]⟩
theorem naA_at {S : List (ByteArray × Int)} {i : Nat} {nm : ByteArray} {lv : Int} (h : S[i]? = some (nm, lv)) : naA S i = nm := by unfold naA; rw [h]; rfl
def nsL (S : List (ByteArray × Int)) (F : List Int) : List ByteArray := (tbS S F).map (·.1)
def wCount : ByteArray := ⟨#[99, 111, 117, 110, 116]⟩
def wSum : ByteArray := ⟨#[115, 117, 109]⟩
def wLevel : ByteArray := ⟨#[108, 101, 118, 101, 108]⟩
def wBy : ByteArray := ⟨#[98, 121]⟩
def wWhere : ByteArray := ⟨#[119, 104, 101, 114, 101]⟩
/-- The words of a table, piece by piece. -/
def tw0 (S : List (ByteArray × Int)) (m : Int) : List ByteArray := if m = -1 then [wCount] else [wSum, naA S m.toNat]
def tw1 (S : List (ByteArray × Int)) (l m : Int) : List ByteArray := tw0 S m ++ [wLevel, numZ l]
def tw2 (S : List (ByteArray × Int)) (l : Int) (F : List Int) (m : Int) : List ByteArray := if F.length = 0 then tw1 S l m else tw1 S l m ++ [wBy, jnS 44 (nsL S F)]
def tw3 (S : List (ByteArray × Int)) (l : Int) (F W : List Int) (m : Int) : List ByteArray := if (cwU S W S.length).length = 0 then tw2 S l F m else tw2 S l F m ++ [wWhere]
def ttT (S : List (ByteArray × Int)) (l : Int) (F W : List Int) (m : Int) : ByteArray := jnS 32 (tw3 S l F W m ++ cwU S W S.length)
section
variable {S : List (ByteArray × Int)} {l : Int} {F W : List Int} {m : Int}
theorem tw0_no (h : m = -1) : tw0 S m = [wCount] := if_pos h
theorem tw0_yes (h : m ≠ -1) : tw0 S m = [wSum, naA S m.toNat] := if_neg h
theorem tw2_no (h : F.length = 0) : tw2 S l F m = tw1 S l m := if_pos h
theorem tw2_yes (h : F.length ≠ 0) : tw2 S l F m = tw1 S l m ++ [wBy, jnS 44 (nsL S F)] := if_neg h
theorem tw3_no (h : (cwU S W S.length).length = 0) : tw3 S l F W m = tw2 S l F m := if_pos h
theorem tw3_yes (h : (cwU S W S.length).length ≠ 0) : tw3 S l F W m = tw2 S l F m ++ [wWhere] := if_neg h
theorem tw0_len : 1 ≤ (tw0 S m).length ∧ (tw0 S m).length ≤ 2 := by unfold tw0; split <;> simp
theorem tw1_len : 3 ≤ (tw1 S l m).length ∧ (tw1 S l m).length ≤ 4 := by unfold tw1; have := tw0_len (S := S) (m := m); simp; omega
theorem tw2_len : 3 ≤ (tw2 S l F m).length ∧ (tw2 S l F m).length ≤ 6 := by
  have := tw1_len (S := S) (l := l) (m := m)
  unfold tw2; split
  · omega
  · simp; omega
theorem tw3_len : 3 ≤ (tw3 S l F W m).length ∧ (tw3 S l F W m).length ≤ 7 := by
  have := tw2_len (S := S) (l := l) (F := F) (m := m)
  unfold tw3; split
  · omega
  · simp; omega
theorem nm_size (hs : schB S = true) {p : ByteArray × Int} (h : p ∈ S) : p.1.size ≤ 8 := by
  have hv := schB_va hs h
  unfold vaB nmB at hv
  simp only [Bool.and_eq_true, decide_eq_true_eq] at hv
  omega
theorem naA_size (hs : schB S = true) (i : Nat) : (naA S i).size ≤ 8 := by
  unfold naA
  cases h : S[i]? with
  | none => exact Nat.zero_le _
  | some p => exact nm_size hs (List.mem_of_getElem? h)
end
end Go.Proofs.YtgkaalonmkcclaaDoor

namespace Go.Proofs.YtgkaalonmkcclaaDoor
open Go.RowKit
set_option maxRecDepth 100000

theorem vC_two (a : ByteArray) (n : Int) : vC [(a, n)] = [.string a, .int .i64 n] := rfl

theorem step_append_rd {P : Program} (w : World) {ops : Array Oper} {o : Oper} {a : Act} {K : Act → World → Prop} {Q : Exit → Act → World → Prop} {E : Prop} (hgd : o.guard = none) (s x : Operand) (t : TypeId)
    (ho : o.op = .call { callee := .builtin .append, args := #[s, x], argTypes := #[t, t] })
    (base : Nat) (e : TypeId) (i : TypeInfo) (z : Value) (size bytes : Nat) (ht : P.underlying t = some (.slice e)) (hi : P.info? e = some i) (hz : i.zero = some z)
    (hsize : i.size = size) (hby : i.bytes = bytes) (hzs : z.cells.size = size) (hsz : 0 < size)
    (v : Value) (n : Nat) (xs : List Value) (hs : a.eval s = v) (hown : w.ownsRow base e size v n xs)
    (A : Option Addr) (m c : Nat) (hx : a.eval x = .slice A m c) (hc : m ≤ c) (hnil : A = none → c = 0) (news : List Value) (hl : news.length = m * size) (hr : Rd w A news) (h1 : ∀ u ∈ news, u.oneCell' = true)
    (h63 : n + m ≤ maxLen) (hbytes : (n + m) * bytes ≤ 140737488355328) (hbase : base ≤ w.heap.size)
    (h : ∀ v' w', w'.ownsRow base e size v' (n + m) (xs ++ news) → w.grownBy w' v.ownBlock → (v'.ownBlock = v.ownBlock ∨ v'.ownBlock = some w.heap.size) → K (a.put o.dst v') w') :
    if Region.wanted o (yielded ops a.tmps) = true then Oper.wp P o a w K Q else E := by
  have hw : Region.wanted o (yielded ops a.tmps) = true := by simp [Region.wanted, hgd]
  rw [if_pos hw]
  obtain ⟨v', w', hrun, h2, h3, h4⟩ := run_append_rd (P := P) w base t o.type e i z size bytes ht hi hz hsize hby hzs hsz v n xs hown A m c hc hnil news hl hr h1 h63 hbytes hbase
  unfold Oper.wp execOp
  simp only [ho, resolve, invoke, builtin, Sem.run_bind, Sem.run_pure, Result.andThen_ok, List.map_toArray, List.map_cons, List.map_nil, hs, hx, hrun]
  exact h v' w' h2 h3 h4
theorem Rd.oneV (w : World) (t : TypeId) (s : ByteArray) (n : Int) : Rd (w.alloc (.cells #[.string s, .int .i64 n] t)) (some ⟨w.heap.size, 0, none⟩) (vC [(s, n)]) := by
  refine Or.inr ⟨w.heap.size, 0, rfl, by simp, fun j u hj => ?_⟩
  rw [vC_two] at hj
  rw [Nat.zero_add, World.cell?_alloc_at _ _ _ _ rfl, ← hj, ← Array.getElem?_toList]
theorem Rd.drewW {w : World} {x : Option Addr} {xs : List Value} (h : Rd w x xs) : Rd w.drew x xs := h

end Go.Proofs.YtgkaalonmkcclaaDoor

namespace Go.Proofs.YtgkaalonmkcclaaDoor
open Go.RowKit
set_option maxRecDepth 100000

theorem itoa_E (n : Int) (w : World) (h0 : 0 ≤ n) (h1 : n < 100) :
    Calls Tryd.prog 42 #[.int .i64 n] w fun e w' => e = .returned (.string (numZ n)) ∧ w' = w := by
  have := Tryd.strconv_Itoa_small n.toNat (by omega) w
  rw [show ((n.toNat : Nat) : Int) = n by omega] at this
  exact this
theorem join_S (bk cp : Nat) (b : UInt8) (L : List ByteArray) (w : World) (h1 : 1 ≤ L.length) (h2 : L.length ≤ 1000) (hc : L.length ≤ cp) (hs : (jnS b L).size ≤ 10000000) (hr : Rd w (some ⟨bk, 0, none⟩) (tC L)) :
    Calls Tryd.prog 46 #[.slice (some ⟨bk, 0, none⟩) L.length cp, .string ⟨#[b]⟩] w fun e w' => e = .returned (.string (jnS b L)) ∧ Below w.heap.size w w' := by
  rcases hr with h | ⟨g, off, e, hb, hcl⟩
  · have := congrArg List.length h
    rw [tC_len, List.length_nil] at this
    omega
  injection e with e
  injection e with e1 e2
  subst e1 e2
  have hj := Tryd.strings_Join bk 0 cp L ⟨#[b]⟩ w (fun j t hj => hcl j _ (tC_at hj)) hb (by omega) (by omega) (by
    have hz : (jnS b L).size = (Lib.join (L.map (·.data.toList)) (⟨#[b]⟩ : ByteArray).data.toList).length := List.size_toArray ..
    omega)
  exact hj

set_option maxHeartbeats 2000000 in
theorem setText_any (nm : ByteArray) (lv x : Int) (w : World) (h : 2 ≤ lv ∧ lv ≤ 8) (h0 : 1 ≤ x) (h1 : x ≤ flZ lv) :
    Calls Tryd.prog 62 #[.agg #[.string nm, .int .i64 lv], .int .i64 x] w fun e w' => e = .returned (.string (setT x)) ∧ Below w.heap.size w w' := by
  obtain ⟨i0, hii, hz0, hz1, hz2⟩ := info_parts Tryd.infoStr
  have hf := flZ_bd h
  have hln := lvsL_len x
  have hl1 := lvs_ne h0 (by omega)
  have hss := setT_size x
  have hbb : i0.bytes * (lvsL x).length ≤ 281474976710656 := by rw [hz2]; omega
  have hmm : (lvsL x).length ≤ maxLen := by unfold maxLen; omega
  go_enter Tryd.func62, Tryd.ntmps62
  go_wp2_with fail
  refine (levelsIn_any _ _ _ _ h h0 h1).mono ?_
  rintro e w2 ⟨u2, rfl, ho2, hb2⟩
  obtain ⟨x2, n2, rfl, -, -⟩ := (OwR.of ho2).form
  have A2 := Lib.hid (Rd.of_own ho2)
  have B2 : Below w.heap.size w w2 := (by repeat (first | exact Below.refl _ _ | assumption | refine Below.drew ?_ | refine below_drewN ?_ _ | refine Below.alloc' ?_ _ | (refine Below.setCell ?_ (by first | omega | (simp; done) | (simp; omega) | exact Below.size (by assumption) | exact Nat.le_trans (Below.size (by assumption)) (by simp)) _) | (refine Below.via' ?_ (by assumption)) | (refine Below.alloc ?_ (by first | omega | (simp; done) | (simp; omega) | exact Below.size (by assumption) | exact Nat.le_trans (Below.size (by assumption)) (by simp)) _) | (refine Below.via ?_ (by assumption) (by first | omega | (simp; done) | (simp; omega) | exact Below.size (by assumption) | exact Nat.le_trans (Below.size (by assumption)) (by simp)))))
  clear ho2 hb2
  go_wp2_with (at_make; go_loud (refine wpList_make_full _ rfl _ _ 72 rfl w2.heap.size 9 i0 (.string ⟨#[]⟩) 1 Tryd.underlying72 hii hz0 hz1 .i64 .i64 _ _ (lvsL x).length rfl rfl rfl rfl hbb hmm (Nat.le_refl _) (fun w3 hown hgrow => ?_)))
  have hb3 : Below w2.heap.size w2 w3 := (Below.refl _ _).grown hgrow (Nat.le_refl _) (by intro k hk; cases hk)
  clear hgrow hii hz0 hz1 hz2 hbb hmm
  go_loopw [17] (fun q wr => ∃ (n : Nat) (xs : List Value), n ≤ (lvsL x).length ∧ q = .int .i64 n ∧ wr.ownsRow w2.heap.size 9 1 (.slice (some ⟨w2.heap.size, 0, none⟩) (lvsL x).length (lvsL x).length) (lvsL x).length xs ∧ Hid (∀ j, j < n → xs[j]? = (tC ((lvsL x).map numZ))[j]?) ∧ Below w2.heap.size w2 wr) (fun q _ => (lvsL x).length - (intOf q).toNat)
  case atStart => exact ⟨0, _, by omega, by go_num, hown, (fun j hj => absurd hj (by omega)), hb3⟩
  case round =>
    clear hown hb3
    obtain ⟨n, xs, hn, rfl, hown, hdone, hb⟩ := hrel
    by_cases hlt : n < (lvsL x).length
    · obtain ⟨bl, off, v, hx2, hbl, hA, hc0⟩ := (A2.out.below hb).int hlt
      have hv := lvs_i64 x v (List.mem_of_getElem? hA)
      have hlt' : (n : Int) < ((lvsL x).length : Int) := by omega
      have hn0 : (0 : Int) ≤ (n : Int) := by omega
      obtain ⟨u, hu, k0⟩ := own_cell hown (j := n) (by omega)
      have k2 := hown.frozenAt n
      have k4 := (own_lt hown).2
      have hst := Lib.hid (hown.stored n (.string (numZ v)))
      have hlen : Hid (xs.length = (lvsL x).length) := by have := hown.1; unfold Hid; omega
      have hx2h := Lib.hid hx2
      replace hA := Lib.hid hA
      replace hu := Lib.hid hu
      clear hown hx2
      rw [hx2h.out]
      go_wp2_with fail
      refine (itoa_E v _ (by omega) (by omega)).mono ?_
      rintro e w5 ⟨rfl, rfl⟩
      go_wp2
      go_roundw
      case rel =>
        refine ⟨n + 1, _, by omega, by go_num, hst.out.1, ?_, (by repeat (first | exact Below.refl _ _ | assumption | refine Below.drew ?_ | refine below_drewN ?_ _ | refine Below.alloc' ?_ _ | (refine Below.setCell ?_ (by first | omega | (simp; done) | (simp; omega) | exact Below.size (by assumption) | exact Nat.le_trans (Below.size (by assumption)) (by simp)) _) | (refine Below.via' ?_ (by assumption)) | (refine Below.alloc ?_ (by first | omega | (simp; done) | (simp; omega) | exact Below.size (by assumption) | exact Nat.le_trans (Below.size (by assumption)) (by simp)) _) | (refine Below.via ?_ (by assumption) (by first | omega | (simp; done) | (simp; omega) | exact Below.size (by assumption) | exact Nat.le_trans (Below.size (by assumption)) (by simp)))))⟩
        intro j hj
        rw [List.getElem?_set]
        split
        · subst_vars
          rw [if_pos (by rw [hlen.out]; omega)]
          unfold tC
          rw [List.getElem?_map, List.getElem?_map, hA.out]
          rfl
        · exact hdone.out j (by omega)
      case measure => simp [intOf]; omega
    · have hij : n = (lvsL x).length := by omega
      subst hij
      have hxs : xs = tC ((lvsL x).map numZ) := by
        have hlen : xs.length = (lvsL x).length := by rw [hown.1]; omega
        apply List.ext_getElem?
        intro j
        rcases Nat.lt_or_ge j (lvsL x).length with hj | hj
        · exact hdone.out j hj
        · rw [List.getElem?_eq_none (by omega), List.getElem?_eq_none (by rw [tC_len, List.length_map]; omega)]
      subst hxs
      have hrd := Lib.hid (Rd.of_own hown)
      have hj := join_S w2.heap.size (lvsL x).length 44 ((lvsL x).map numZ) wr (by rw [List.length_map]; exact hl1) (by rw [List.length_map]; omega) (by rw [List.length_map]; exact Nat.le_refl _) (by have : (jnS 44 ((lvsL x).map numZ)).size ≤ 16 := hss; omega) hrd.out
      rw [List.length_map] at hj
      have hjh := Lib.hid hj
      clear hdone hown hj
      go_wp2_with fail
      refine hjh.out.mono ?_
      rintro e w6 ⟨rfl, hb6⟩
      go_wp2
      go_ret
      exact ⟨rfl, (by repeat (first | exact Below.refl _ _ | assumption | refine Below.drew ?_ | refine below_drewN ?_ _ | refine Below.alloc' ?_ _ | (refine Below.setCell ?_ (by first | omega | (simp; done) | (simp; omega) | exact Below.size (by assumption) | exact Nat.le_trans (Below.size (by assumption)) (by simp)) _) | (refine Below.via' ?_ (by assumption)) | (refine Below.alloc ?_ (by first | omega | (simp; done) | (simp; omega) | exact Below.size (by assumption) | exact Nat.le_trans (Below.size (by assumption)) (by simp)) _) | (refine Below.via ?_ (by assumption) (by first | omega | (simp; done) | (simp; omega) | exact Below.size (by assumption) | exact Nat.le_trans (Below.size (by assumption)) (by simp)))))⟩

theorem retS_no {S : List (ByteArray × Int)} {E : List Int} {w w' : World} (hb : seB S E = false) (h : Below w.heap.size w w') : Ending.returned (.tuple #[.string ⟨#[]⟩, .bool false]) = .returned (.tuple #[.string (edR S E), .bool (seB S E)]) ∧ Below w.heap.size w w' := by
  rw [edR_no hb, hb]
  exact ⟨rfl, h⟩
theorem retS_yes {S : List (ByteArray × Int)} {E : List Int} {w w' : World} {t : ByteArray} (hb : seB S E = true) (ht : edT S E = t) (h : Below w.heap.size w w') : Ending.returned (.tuple #[.string t, .bool true]) = .returned (.tuple #[.string (edR S E), .bool (seB S E)]) ∧ Below w.heap.size w w' := by
  rw [edR_yes hb, hb, ht]
  exact ⟨rfl, h⟩
theorem name_size {S : List (ByteArray × Int)} (hs : schB S = true) {i : Nat} {nm : ByteArray} {lv : Int} (h : S[i]? = some (nm, lv)) : nm.size ≤ 8 := by
  have hv := schB_va hs (List.mem_of_getElem? h)
  unfold vaB nmB at hv
  simp only [Bool.and_eq_true, decide_eq_true_eq] at hv
  exact hv.1.1.2
theorem below_undrewE {w w' : World} (h : Below w.drew.heap.size w.drew w') : Below w.heap.size w w' := ⟨h.os, h.tape, h.output, h.size, h.block⟩
end Go.Proofs.YtgkaalonmkcclaaDoor

namespace Go.Proofs.YtgkaalonmkcclaaDoor
open Go.RowKit
set_option maxRecDepth 100000

/-- Block g holds a record. -/
def RB (w : World) (g : Nat) (a h : Int) (x : Option Addr) (n c : Nat) : Prop :=
  w.cell? ⟨g, 0, none⟩ = some (.int .i64 a) ∧ w.cell? ⟨g, 1, none⟩ = some (.int .i64 h) ∧ w.cell? ⟨g, 2, none⟩ = some (.slice x n c) ∧ g < w.heap.size
theorem RB.new (w : World) (a h : Int) (x : Option Addr) (n c : Nat) (t : TypeId) : RB (w.alloc (.cells #[.int .i64 a, .int .i64 h, .slice x n c] t)) w.heap.size a h x n c := by
  have k := Wb.new w t #[.int .i64 a, .int .i64 h, .slice x n c]
  exact ⟨(k.read 0).trans rfl, (k.read 1).trans rfl, (k.read 2).trans rfl, k.inside⟩
theorem RB.below {w w' : World} {g : Nat} {a h : Int} {x : Option Addr} {n c : Nat} (k : RB w g a h x n c) (hb : Below w.heap.size w w') : RB w' g a h x n c :=
  ⟨(hb.cell k.2.2.2).trans k.1, (hb.cell k.2.2.2).trans k.2.1, (hb.cell k.2.2.2).trans k.2.2.1, Nat.lt_of_lt_of_le k.2.2.2 hb.size⟩
theorem RB.off {w w' : World} {lo hi g : Nat} {a h : Int} {x : Option Addr} {n c : Nat} (k : RB w g a h x n c) (hg : Off lo hi w w') (hne : g < lo ∨ hi ≤ g) : RB w' g a h x n c := by
  have e := hg.block g k.2.2.2 hne
  exact ⟨(World.cell?_of_block (a := ⟨g, 0, none⟩) e).trans k.1, (World.cell?_of_block (a := ⟨g, 1, none⟩) e).trans k.2.1, (World.cell?_of_block (a := ⟨g, 2, none⟩) e).trans k.2.2.1, Nat.lt_of_lt_of_le k.2.2.2 hg.size⟩

theorem rok_no {S : List (ByteArray × Int)} {a h : Int} {L : List Int} (k : ¬ (0 ≤ a ∧ a ≤ 29) ∨ ¬ (0 ≤ h ∧ h ≤ 999)) : rokB S (a, h, L) = false := by
  unfold rokB
  rcases k with k | k
  · rw [(inB_no a 0 29).2 k]; rfl
  · rw [(inB_no h 0 999).2 k, Bool.and_false]; rfl
theorem rok_yes {S : List (ByteArray × Int)} {a h : Int} {L : List Int} (k : 0 ≤ a ∧ a ≤ 29) (k2 : 0 ≤ h ∧ h ≤ 999) : rokB S (a, h, L) = fitB S L := by
  unfold rokB
  rw [(inB_iff a 0 29).2 k, (inB_iff h 0 999).2 k2]; rfl

theorem ret_bb {a b p q : Bool} (h : a = b) (k : p = q) : Ending.returned (.tuple #[.bool a, .bool p]) = .returned (.tuple #[.bool b, .bool q]) := by rw [h, k]
end Go.Proofs.YtgkaalonmkcclaaDoor

namespace Go.Proofs.YtgkaalonmkcclaaDoor
open Go.ChangeShapes Go.WideShapes Go.ChangeAt Go.RowKit
open Go.Joins
set_option maxRecDepth 100000

instance : Inhabited PR := ⟨⟨0, 0, none, 0, []⟩⟩
/-- The record that the law has copied can be read as one. -/
theorem IIn.of_owR {w : World} {lo hi : Nat} {ti : TypeId} {x : Option Addr} {c : Nat} {L : List Int} (h : OwR w lo hi ti 1 (.slice x L.length c) L.length (iC L)) (hl : L.length ≤ 1048576) (hn : ∀ n ∈ L, IsI64 n) : IIn w x L := ⟨hl, hn, h.rd⟩
/-- The records that the law has copied can be read as data: their numbers are those that came in. -/
theorem DIn.of_owD {w W : World} {lo hi : Nat} {tr ti : TypeId} {x y : Option Addr} {c : Nat} {T Q : List PR} (h : OwD w lo hi tr ti (.slice x T.length c) T) (hT : pM T = pM Q) (hQ : DIn0 W y Q) (hl : Q.length ≤ 1048576) (ht : tot Q ≤ 1048576) : DIn w x T := by
  refine ⟨by rw [pM_length hT]; exact hl, fun t hm => ?_, h.1.rd⟩
  obtain ⟨i, hi, e⟩ := List.getElem_of_mem hm
  have hTi : T[i]? = some t := by rw [List.getElem?_eq_getElem hi, e]
  have hQl : i < Q.length := by rw [← pM_length hT]; exact hi
  have hQi : Q[i]? = some Q[i] := List.getElem?_eq_getElem hQl
  obtain ⟨e1, e2, e3⟩ := pM_get hT hQi hTi
  obtain ⟨_, g1, g2, g3, _⟩ := hQ.2.1 Q[i] (List.getElem_mem hQl)
  have := tot_mem (List.getElem_mem hQl)
  refine ⟨by rw [e1]; exact g1, by rw [e2]; exact g2, by rw [e3]; omega, by rw [e3]; exact g3, (h.2.1.1 t hm).rd⟩
theorem DIn.inn {w : World} {x : Option Addr} {Q : List PR} (h : DIn w x Q) : ∀ q ∈ Q, Rd w q.x (iC q.L) := fun q hq => (h.2.1 q hq).2.2.2.2
theorem DIn.len {w : World} {x : Option Addr} {Q : List PR} (h : DIn w x Q) : Q.length ≤ 9223372036854775807 ∧ ∀ q ∈ Q, q.L.length ≤ 9223372036854775807 := ⟨by have := h.1; omega, fun q hq => by have := (h.2.1 q hq).2.2.1; omega⟩
end Go.Proofs.YtgkaalonmkcclaaDoor
