/-
  Lists of edits in memory (as records without numbers: one slice of integers each): reading, the size, a copy, a comparison, marks and their test; a list that comes in.
-/
import Derived.Test.YtgkaalonmkcclabEdL
import Derived.Test.YtgkaalonmkcclabRecM
namespace Go.Proofs.Ytgkaalonmkcclab
open Go.ChangeShapes Go.WideShapes Go.ChangeAt Go.RowKit
open Go.Joins Go.Deep
set_option maxRecDepth 100000

/-- The cells of a list of edits; the edits without their places. -/
def eC (Q : List PR) : List Value := Q.map PR.v
def eM (Q : List PR) : List (List Int) := Q.map fun q => q.L
theorem eC_len (Q : List PR) : (eC Q).length = Q.length := by unfold eC; simp
theorem eM_len (Q : List PR) : (eM Q).length = Q.length := by unfold eM; simp
theorem eC_at {Q : List PR} {i : Nat} {q : PR} (h : Q[i]? = some q) : (eC Q)[i]? = some q.v := by unfold eC; rw [List.getElem?_map, h]; rfl
theorem eM_at {Q : List PR} {i : Nat} {q : PR} (h : Q[i]? = some q) : (eM Q)[i]? = some q.L := by unfold eM; rw [List.getElem?_map, h]; rfl
theorem eM_app (Q T : List PR) : eM (Q ++ T) = eM Q ++ eM T := by unfold eM; rw [List.map_append]
theorem eM_take (Q : List PR) (k : Nat) : eM (Q.take k) = (eM Q).take k := by unfold eM; rw [List.map_take]
theorem eC_one (Q : List PR) : ∀ u ∈ eC Q, u.oneCell' = true := by
  intro u hu
  unfold eC at hu
  obtain ⟨q, _, rfl⟩ := List.mem_map.1 hu
  rfl
theorem Rd.ed {w : World} {x : Option Addr} {Q : List PR} {i : Nat} (h : Rd w x (eC Q)) (hi : i < Q.length) :
    ∃ b off q, x = some ⟨b, off, none⟩ ∧ b < w.heap.size ∧ Q[i]? = some q ∧ w.cell? ⟨b, off + i, none⟩ = some (.slice q.x q.L.length q.c) := by
  rcases h with h | ⟨b, off, e, hl, hc⟩
  · have := eC_len Q
    rw [h] at this
    simp at this
    omega
  · exact ⟨b, off, Q[i], e, hl, List.getElem?_eq_getElem hi, hc _ _ (eC_at (List.getElem?_eq_getElem hi))⟩
/-- A list of edits that is read; one that comes in. -/
def EIn (w : World) (x : Option Addr) (Q : List PR) : Prop := Q.length ≤ 1048576 ∧ (∀ q ∈ Q, IIn w q.x q.L) ∧ Rd w x (eC Q)
def EIn0 (w : World) (x : Option Addr) (Q : List PR) : Prop := Q.length ≤ 9223372036854775807 ∧ (∀ q ∈ Q, q.L.length ≤ 9223372036854775807 ∧ (∀ n ∈ q.L, IsI64 n) ∧ Rd w q.x (iC q.L)) ∧ Rd w x (eC Q)
theorem EIn.below {w w' : World} {x : Option Addr} {Q : List PR} (h : EIn w x Q) (hb : Below w.heap.size w w') : EIn w' x Q := ⟨h.1, fun q hq => (h.2.1 q hq).below hb, h.2.2.below hb⟩
theorem EIn0.below {w w' : World} {x : Option Addr} {Q : List PR} (h : EIn0 w x Q) (hb : Below w.heap.size w w') : EIn0 w' x Q := ⟨h.1, fun q hq => ⟨(h.2.1 q hq).1, (h.2.1 q hq).2.1, (h.2.1 q hq).2.2.below hb⟩, h.2.2.below hb⟩
/-- A list of edits that a call owns. -/
def OwE (w : World) (lo hi : Nat) (te ti : TypeId) (v : Value) (Q : List PR) : Prop :=
  OwR w lo hi te 1 v Q.length (eC Q) ∧ OwV w lo hi ti Q ∧ ∀ q ∈ Q, ∀ k, v.ownBlock = some k → q.v.ownBlock ≠ some k
section
variable {lo hi : Nat} {w w1 : World} {te ti : TypeId} {v : Value} {Q : List PR}
theorem OwE.below (h : OwE w lo hi te ti v Q) (hb : Below w.heap.size w w1) : OwE w1 lo hi te ti v Q := ⟨h.1.below hb, h.2.1.below hb, h.2.2⟩
theorem OwE.off {lo2 hi2 : Nat} (h : OwE w lo hi te ti v Q) (hg : Off lo2 hi2 w w1) (hne : hi ≤ lo2 ∨ hi2 ≤ lo) : OwE w1 lo hi te ti v Q := ⟨h.1.off hg hne, h.2.1.off hg hne, h.2.2⟩
theorem OwE.more {lo' hi' : Nat} (h : OwE w lo hi te ti v Q) (h1 : lo' ≤ lo) (h2 : hi ≤ hi') : OwE w lo' hi' te ti v Q := ⟨h.1.more h1 h2, h.2.1.more h1 h2, h.2.2⟩
theorem OwE.form (h : OwE w lo hi te ti v Q) : ∃ x c, v = .slice x Q.length c ∧ Q.length ≤ c ∧ (x = none → c = 0) := h.1.form
end
theorem eM_get {Q T : List PR} (h : eM T = eM Q) {i : Nat} {q t : PR} (hq : Q[i]? = some q) (ht : T[i]? = some t) : t.L = q.L := Option.some.inj ((eM_at ht).symm.trans (h ▸ eM_at hq))
theorem eM_length {Q T : List PR} (h : eM T = eM Q) : T.length = Q.length := by rw [← eM_len, h, eM_len]
theorem EIn.of_owE {w W : World} {lo hi : Nat} {te ti : TypeId} {x y : Option Addr} {c : Nat} {T Q : List PR} (h : OwE w lo hi te ti (.slice x T.length c) T) (hT : eM T = eM Q) (hQ : EIn0 W y Q) (hl : Q.length ≤ 1048576) (ht : tot Q ≤ 1048576) : EIn w x T := by
  refine ⟨by rw [eM_length hT]; exact hl, fun t hm => ?_, h.1.rd⟩
  obtain ⟨i, hi, e⟩ := List.getElem_of_mem hm
  have hTi : T[i]? = some t := by rw [List.getElem?_eq_getElem hi, e]
  have hQl : i < Q.length := by rw [← eM_length hT]; exact hi
  have hQi : Q[i]? = some Q[i] := List.getElem?_eq_getElem hQl
  have e3 := eM_get hT hQi hTi
  have := tot_mem (List.getElem_mem hQl)
  exact ⟨by rw [e3]; omega, by rw [e3]; exact (hQ.2.1 Q[i] (List.getElem_mem hQl)).2.1, (h.2.1.1 t hm).rd⟩
theorem EIn.len {w : World} {x : Option Addr} {Q : List PR} (h : EIn w x Q) : Q.length ≤ 9223372036854775807 ∧ ∀ q ∈ Q, q.L.length ≤ 9223372036854775807 := ⟨by have := h.1; omega, fun q hq => by have := (h.2.1 q hq).1; omega⟩
theorem EIn.inn {w : World} {x : Option Addr} {Q : List PR} (h : EIn w x Q) : ∀ q ∈ Q, Rd w q.x (iC q.L) := fun q hq => (h.2.1 q hq).2.2

theorem Try.infoEd : (Try.prog.info? 90).map (fun i => (i.zero, i.size, i.bytes)) = some (some (.agg #[.slice none 0 0]), 1, 24) := by kernel_rfl
set_option maxHeartbeats 1000000 in
theorem szEditS_any (x : Option Addr) (cap : Nat) (Q : List PR) (left : Int) (w : World) (hl : 0 ≤ left) (h : left ≤ 1048576) (hm : Q.length ≤ 9223372036854775807) (hn : ∀ q ∈ Q, q.L.length ≤ 9223372036854775807) (hS : Rd w x (eC Q)) :
    Calls Try.prog 8 #[.slice x Q.length cap, .int .i64 left] w (SzPostR left Q w) := by
  have hnh := Lib.hid hn
  clear hn
  by_cases k : left < Q.length
  · clear hS
    go_enter Try.func8, Try.ntmps8
    go_wp2
    go_ret
    exact ⟨-1, rfl, by omega, by omega, fun h => by omega, (by repeat (first | exact Below.refl _ _ | assumption | refine Below.drew ?_ | refine below_drewN ?_ _ | refine Below.alloc' ?_ _ | (refine Below.setCell ?_ (by first | omega | (simp; done) | (simp; omega) | exact Below.size (by assumption) | exact Nat.le_trans (Below.size (by assumption)) (by simp)) _) | (refine Below.via' ?_ (by assumption)) | (refine Below.alloc ?_ (by first | omega | (simp; done) | (simp; omega) | exact Below.size (by assumption) | exact Nat.le_trans (Below.size (by assumption)) (by simp)) _) | (refine Below.via ?_ (by assumption) (by first | omega | (simp; done) | (simp; omega) | exact Below.size (by assumption) | exact Nat.le_trans (Below.size (by assumption)) (by simp)))))⟩
  go_enter Try.func8, Try.ntmps8
  go_wp2
  go_loopw [1, 5] (fun q c wr => ∃ (i : Nat) (r : Int), i ≤ Q.length ∧ c = .int .i64 i ∧ q = .int .i64 r ∧ 0 ≤ r ∧ r ≤ left ∧ Hid (r + Q.length + tot (Q.take i) = left) ∧ Below w.heap.size w wr) (fun _ c _ => Q.length - (intOf c).toNat)
  case atStart => exact ⟨0, _, by omega, rfl, rfl, by omega, by omega, (by unfold Hid; simp [tot]), Below.refl _ _⟩
  case round =>
    obtain ⟨i, r, hi, rfl, rfl, h0, h1, hall, hb⟩ := hrel
    by_cases hlt : i < Q.length
    · obtain ⟨bl, off, q, rfl, hbl, hSi, hc0⟩ := (hS.below hb).ed hlt
      have hnm := hnh.out _ (List.mem_of_getElem? hSi)
      have hSi := Lib.hid hSi
      clear hS
      have hlt' : (i : Int) < (Q.length : Int) := by omega
      go_wp2_with fail
      refine (szEdit_x _ _ _ _ _ (by omega) (by omega) (by omega)).mono ?_
      rintro e w2 ⟨r2, rfl, ha, hbb, hcc, hb2⟩
      by_cases hneg : r2 < 0
      · clear hcc
        go_wp2
        go_ret
        exact ⟨-1, rfl, by omega, by omega, fun h => by omega, (by repeat (first | exact Below.refl _ _ | assumption | refine Below.drew ?_ | refine below_drewN ?_ _ | refine Below.alloc' ?_ _ | (refine Below.setCell ?_ (by first | omega | (simp; done) | (simp; omega) | exact Below.size (by assumption) | exact Nat.le_trans (Below.size (by assumption)) (by simp)) _) | (refine Below.via' ?_ (by assumption)) | (refine Below.alloc ?_ (by first | omega | (simp; done) | (simp; omega) | exact Below.size (by assumption) | exact Nat.le_trans (Below.size (by assumption)) (by simp)) _) | (refine Below.via ?_ (by assumption) (by first | omega | (simp; done) | (simp; omega) | exact Below.size (by assumption) | exact Nat.le_trans (Below.size (by assumption)) (by simp)))))⟩
      · have hlh := Lib.hid (hcc (by omega))
        clear hcc
        go_wp2
        go_roundw
        case rel =>
          refine ⟨i + 1, _, by omega, by go_num, rfl, by omega, by omega, ?_, (by repeat (first | exact Below.refl _ _ | assumption | refine Below.drew ?_ | refine below_drewN ?_ _ | refine Below.alloc' ?_ _ | (refine Below.setCell ?_ (by first | omega | (simp; done) | (simp; omega) | exact Below.size (by assumption) | exact Nat.le_trans (Below.size (by assumption)) (by simp)) _) | (refine Below.via' ?_ (by assumption)) | (refine Below.alloc ?_ (by first | omega | (simp; done) | (simp; omega) | exact Below.size (by assumption) | exact Nat.le_trans (Below.size (by assumption)) (by simp)) _) | (refine Below.via ?_ (by assumption) (by first | omega | (simp; done) | (simp; omega) | exact Below.size (by assumption) | exact Nat.le_trans (Below.size (by assumption)) (by simp)))))⟩
          have := hall.out
          have := hlh.out
          unfold Hid
          rw [tot_take hSi.out]
          omega
        case measure => simp [intOf]; omega
    · have hij : i = Q.length := by omega
      subst hij
      clear hS
      go_wp2
      go_ret
      refine ⟨r, rfl, by omega, by omega, fun _ => ?_, hb⟩
      have := hall.out
      rwa [List.take_length] at this

/-- A list of edits that the law has copied. -/
def EcPost (Q : List PR) (w : World) (e : Ending) (w' : World) : Prop :=
  ∃ T : List PR, e = .returned (.slice (some ⟨w.heap.size, 0, none⟩) T.length T.length) ∧ eM T = eM Q ∧ OwE w' w.heap.size w'.heap.size 90 3 (.slice (some ⟨w.heap.size, 0, none⟩) T.length T.length) T ∧ Below w.heap.size w w'
theorem eC_snoc_at {T : List PR} {q : PR} {xs : List Value} {i n : Nat} (hT : T.length = i) (hi : i < n) (hl : xs.length = n) (hd : ∀ j, j < i → xs[j]? = (eC T)[j]?) :
    ∀ j, j < i + 1 → (xs.set i q.v)[j]? = (eC (T ++ [q]))[j]? := by
  intro j hj
  have hq : (T ++ [q])[i]? = some q := by subst hT; simp
  rw [List.getElem?_set]
  by_cases e0 : i = j
  · subst e0; rw [if_pos rfl, if_pos (by omega), eC_at hq]
  · rw [if_neg e0, hd j (by omega)]
    unfold eC
    rw [List.map_append, List.getElem?_append_left (by rw [List.length_map]; omega)]
theorem eC_ext {n : Nat} {xs : List Value} {Q : List PR} (hl : xs.length = n) (hq : Q.length = n) (h : ∀ j, j < n → xs[j]? = (eC Q)[j]?) : xs = eC Q := by
  apply List.ext_getElem?
  intro j
  rcases Nat.lt_or_ge j n with hj | hj
  · exact h j hj
  · rw [List.getElem?_eq_none (by omega), List.getElem?_eq_none (by rw [eC_len]; omega)]
set_option maxHeartbeats 2000000 in
theorem toEditS_any (x : Option Addr) (cap : Nat) (Q : List PR) (w : World) (hm : Q.length ≤ 1048576) (hQ : ∀ q ∈ Q, q.L.length ≤ 1048576 ∧ Rd w q.x (iC q.L)) (hS : Rd w x (eC Q)) :
    Calls Try.prog 11 #[.slice x Q.length cap] w (EcPost Q w) := by
  obtain ⟨i0, hi, hz0, hz1, hz2⟩ := info_parts Try.infoEd
  have hbb : i0.bytes * Q.length ≤ 281474976710656 := by rw [hz2]; omega
  have hmm : Q.length ≤ maxLen := by unfold maxLen; omega
  have hQh := Lib.hid hQ
  clear hQ
  go_enter Try.func11, Try.ntmps11
  go_wp2_with (at_make; go_loud (refine wpList_make_full _ rfl _ _ 31 rfl w.heap.size 90 i0 (.agg #[.slice none 0 0]) 1 Try.underlying31 hi hz0 hz1 .i64 .i64 _ _ Q.length rfl rfl rfl rfl hbb hmm (Nat.le_refl _) (fun w1 hown hgrow => ?_)))
  have hb1 : Below w.heap.size w w1 := (Below.refl _ _).grown hgrow (Nat.le_refl _) (by intro k hk; cases hk)
  have hs1 : w.heap.size + 1 ≤ w1.heap.size := (own_lt hown).2
  clear hgrow hi hz0 hz1 hz2
  go_loopw [4] (fun c wr => ∃ (i : Nat) (xs : List Value) (T : List PR), i ≤ Q.length ∧ c = .int .i64 i ∧ wr.ownsRow w.heap.size 90 1 (.slice (some ⟨w.heap.size, 0, none⟩) Q.length Q.length) Q.length xs ∧ Hid (∀ j, j < i → xs[j]? = (eC T)[j]?) ∧ Hid (eM T = (eM Q).take i ∧ T.length = i) ∧ Hid (OwV wr (w.heap.size + 1) wr.heap.size 3 T) ∧ w.heap.size + 1 ≤ wr.heap.size ∧ Below w.heap.size w wr) (fun c _ => Q.length - (intOf c).toNat)
  case atStart => exact ⟨0, _, [], by omega, rfl, hown, (fun j hj => absurd hj (by omega)), ⟨by simp [eM], rfl⟩, ⟨fun q hq => by simp at hq, by simp⟩, hs1, hb1⟩
  case round =>
    clear hown hb1 hs1
    obtain ⟨i, xs, T, hi, rfl, hown, hdone, hT, hV, hsz, hb⟩ := hrel
    by_cases hlt : i < Q.length
    · obtain ⟨bl, off, q, rfl, hbl, hSi, hc0⟩ := (hS.below hb).ed hlt
      obtain ⟨hq1, hq2⟩ := hQh.out q (List.mem_of_getElem? hSi)
      have hq2 := Lib.hid (hq2.below hb)
      obtain ⟨u0, hu0, k0⟩ := own_cell hown (j := i) (by omega)
      have f0 := hown.frozenAt i
      have k4 := (own_lt hown).2
      replace hu0 := Lib.hid hu0
      replace hSi := Lib.hid hSi
      have hoh := Lib.hid hown
      have hlt' : (i : Int) < (Q.length : Int) := by omega
      clear hS hown
      go_wp2_with fail
      refine (toEdit_any _ _ _ _ hq1 (hq2.out.below (by exact (by repeat (first | exact Below.refl _ _ | assumption | refine Below.drew ?_ | refine below_drewN ?_ _ | refine Below.alloc' ?_ _ | (refine Below.setCell ?_ (by first | omega | (simp; done) | (simp; omega) | exact Below.size (by assumption) | exact Nat.le_trans (Below.size (by assumption)) (by simp)) _) | (refine Below.via' ?_ (by assumption)) | (refine Below.alloc ?_ (by first | omega | (simp; done) | (simp; omega) | exact Below.size (by assumption) | exact Nat.le_trans (Below.size (by assumption)) (by simp)) _) | (refine Below.via ?_ (by assumption) (by first | omega | (simp; done) | (simp; omega) | exact Below.size (by assumption) | exact Nat.le_trans (Below.size (by assumption)) (by simp)))))))).mono ?_
      rintro e w2 ⟨g, rfl, ho2, hb2⟩
      obtain ⟨hcl2, hfr2⟩ := bcell hb2
      have hz2 := hb2.size; (try simp at hz2); (try (have hly2 := Nat.lt_of_succ_le hz2)); (try (have hlx2 := Nat.lt_of_succ_lt hly2)); (try (have hlw2 := Nat.lt_of_succ_lt hlx2)); (try (have hle2 := Nat.le_of_lt hly2))
      have ho2h := Lib.hid (OwR.of ho2)
      clear ho2
      go_wp2
      go_roundw
      case rel =>
        have st0 := (own_below hoh.out hb2).stored i (PR.v ⟨0, 0, some ⟨g, 0, none⟩, q.L.length, q.L⟩)
        have hoff := Off.of_grown (lo := w.heap.size) (hi := w.heap.size + 1) st0.2 (by intro k hk; injection hk with hk; omega)
        refine ⟨i + 1, _, T ++ [⟨0, 0, some ⟨g, 0, none⟩, q.L.length, q.L⟩], by omega, by go_num, st0.1, (by exact eC_snoc_at (q := ⟨0, 0, some ⟨g, 0, none⟩, q.L.length, q.L⟩) hT.out.2 hlt (by have := hoh.out.1; omega) hdone.out), ?_, ?_, ?_, (by repeat (first | exact Below.refl _ _ | assumption | refine Below.drew ?_ | refine below_drewN ?_ _ | refine Below.alloc' ?_ _ | (refine Below.setCell ?_ (by first | omega | (simp; done) | (simp; omega) | exact Below.size (by assumption) | exact Nat.le_trans (Below.size (by assumption)) (by simp)) _) | (refine Below.via' ?_ (by assumption)) | (refine Below.alloc ?_ (by first | omega | (simp; done) | (simp; omega) | exact Below.size (by assumption) | exact Nat.le_trans (Below.size (by assumption)) (by simp)) _) | (refine Below.via ?_ (by assumption) (by first | omega | (simp; done) | (simp; omega) | exact Below.size (by assumption) | exact Nat.le_trans (Below.size (by assumption)) (by simp)))))⟩
        · refine ⟨?_, by simp [hT.out.2]⟩
          rw [eM_app, hT.out.1, take_snoc (eM_at hSi.out)]
          rfl
        · refine OwV.off (lo2 := w.heap.size) (hi2 := w.heap.size + 1) ?_ hoff (Or.inr (by omega))
          exact (((hV.out.below hb2).snoc ho2h.out (by omega) (by omega))).more (Nat.le_refl _) (by simp)
        · simp; omega
      case measure => simp [intOf]; omega
    · have hij : i = Q.length := by omega
      subst hij
      have hxs : xs = eC T := eC_ext (by have := hown.1; omega) hT.out.2 hdone.out
      subst hxs
      have hTl := hT.out.2
      have hTm : Hid (eM T = eM Q) := by have := hT.out.1; unfold Hid; rwa [← eM_len Q, List.take_length] at this
      have hres : Hid (OwE wr w.heap.size wr.heap.size 90 3 (.slice (some ⟨w.heap.size, 0, none⟩) T.length T.length) T) := by
        rw [hTl]
        refine ⟨?_, hV.out.more (by omega) (Nat.le_refl _), fun q hq k hk e => ?_⟩
        · rw [hTl]; exact OwR.of hown
        · have := (hV.out.1 q hq).2 k e
          injection hk with hk
          simp at hk
          omega
      clear hS hdone hown hV hT
      rw [← hTl]
      go_wp2
      go_ret
      exact ⟨T, rfl, hTm.out, hres.out, hb⟩

set_option maxHeartbeats 2000000 in
theorem eqEditS_any (x y : Option Addr) (c1 c2 : Nat) (Q T : List PR) (w : World) (hm : Q.length ≤ 9223372036854775807) (hQ : ∀ q ∈ Q, q.L.length ≤ 9223372036854775807) (hT : eM T = eM Q) (hx : Rd w x (eC Q)) (hxi : ∀ q ∈ Q, Rd w q.x (iC q.L)) (hy : Rd w y (eC T)) (hyi : ∀ q ∈ T, Rd w q.x (iC q.L)) :
    Calls Try.prog 15 #[.slice x Q.length c1, .slice y T.length c2] w fun e w' => e = .returned (.bool true) ∧ Below w.heap.size w w' := by
  have hTl := eM_length hT
  have hTh := Lib.hid hT
  have hQh := Lib.hid hQ
  have hxh := Lib.hid hxi
  have hyh := Lib.hid hyi
  have hyr := Lib.hid hy
  clear hT hQ hxi hyi hy
  rw [hTl]
  replace hTl := Lib.hid hTl
  go_enter Try.func15, Try.ntmps15
  go_wp2
  go_loopw [5] (fun c wr => ∃ i : Nat, i ≤ Q.length ∧ c = .int .i64 i ∧ Below w.heap.size w wr) (fun c _ => Q.length - (intOf c).toNat)
  case atStart => exact ⟨0, by omega, rfl, Below.refl _ _⟩
  case round =>
    obtain ⟨i, hi, rfl, hb⟩ := hrel
    by_cases hlt : i < Q.length
    · obtain ⟨bl, off, q, rfl, hbl, hSi, hc0⟩ := (hx.below hb).ed hlt
      obtain ⟨bl2, off2, ⟨ta, th, tx, tc, tL⟩, rfl, hbl2, hSi2, hc3⟩ := (hyr.out.below hb).ed (i := i) (by have := hTl.out; omega)
      have e3 := eM_get hTh.out hSi hSi2
      simp only at e3 hc3
      subst e3
      have hl := hQh.out q (List.mem_of_getElem? hSi)
      have r1 := Lib.hid ((hxh.out q (List.mem_of_getElem? hSi)).below hb)
      have r2 := Lib.hid ((hyh.out _ (List.mem_of_getElem? hSi2)).below hb)
      clear hx hyr hSi hSi2
      have hlt' : (i : Int) < (Q.length : Int) := by omega
      have hi0 : (0 : Int) ≤ (i : Int) := by omega
      go_wp2
      go_region_held3 (fun w' => Below (wr).heap.size (wr) w' ∧ (∀ b o, b < (wr).heap.size → w'.cell? ⟨b, o, none⟩ = (wr).cell? ⟨b, o, none⟩)) (first | exact keep_of (Below.refl _ _) | ((try go_split_ands); exact keep_of (by repeat (first | exact Below.refl _ _ | assumption | refine Below.drew ?_ | refine below_drewN ?_ _ | refine Below.alloc' ?_ _ | (refine Below.setCell ?_ (by first | omega | (simp; done) | (simp; omega) | exact Below.size (by assumption) | exact Nat.le_trans (Below.size (by assumption)) (by simp)) _) | (refine Below.via' ?_ (by assumption)) | (refine Below.alloc ?_ (by first | omega | (simp; done) | (simp; omega) | exact Below.size (by assumption) | exact Nat.le_trans (Below.size (by assumption)) (by simp)) _) | (refine Below.via ?_ (by assumption) (by first | omega | (simp; done) | (simp; omega) | exact Below.size (by assumption) | exact Nat.le_trans (Below.size (by assumption)) (by simp))))))) (first | (go_at_call 66; refine (eqEdit_any _ _ _ _ q.L _ hl (r1.out.below (by exact (by repeat (first | exact Below.refl _ _ | assumption | refine Below.drew ?_ | refine below_drewN ?_ _ | refine Below.alloc' ?_ _ | (refine Below.setCell ?_ (by first | omega | (simp; done) | (simp; omega) | exact Below.size (by assumption) | exact Nat.le_trans (Below.size (by assumption)) (by simp)) _) | (refine Below.via' ?_ (by assumption)) | (refine Below.alloc ?_ (by first | omega | (simp; done) | (simp; omega) | exact Below.size (by assumption) | exact Nat.le_trans (Below.size (by assumption)) (by simp)) _) | (refine Below.via ?_ (by assumption) (by first | omega | (simp; done) | (simp; omega) | exact Below.size (by assumption) | exact Nat.le_trans (Below.size (by assumption)) (by simp))))))) (r2.out.below (by exact (by repeat (first | exact Below.refl _ _ | assumption | refine Below.drew ?_ | refine below_drewN ?_ _ | refine Below.alloc' ?_ _ | (refine Below.setCell ?_ (by first | omega | (simp; done) | (simp; omega) | exact Below.size (by assumption) | exact Nat.le_trans (Below.size (by assumption)) (by simp)) _) | (refine Below.via' ?_ (by assumption)) | (refine Below.alloc ?_ (by first | omega | (simp; done) | (simp; omega) | exact Below.size (by assumption) | exact Nat.le_trans (Below.size (by assumption)) (by simp)) _) | (refine Below.via ?_ (by assumption) (by first | omega | (simp; done) | (simp; omega) | exact Below.size (by assumption) | exact Nat.le_trans (Below.size (by assumption)) (by simp)))))))).mono ?_; rintro e w2 ⟨rfl, hb2⟩)); rename_i hH; obtain ⟨hb2, hcl2⟩ := hH; have hz2 := hb2.size; (try simp at hz2); (try (have hly2 := Nat.lt_of_succ_le hz2)); (try (have hlx2 := Nat.lt_of_succ_lt hly2)); (try (have hlw2 := Nat.lt_of_succ_lt hlx2)); (try (have hle2 := Nat.le_of_lt hly2)); (try (have hya2 : w.heap.size < w2.heap.size := by omega)); (try (have hyb2 : w.heap.size + 1 < w2.heap.size := by omega)); (try (have hyc2 : w.heap.size + 1 + 1 < w2.heap.size := by omega)); (try (have hyd2 : wa.heap.size < w2.heap.size := by omega))
      go_wp2
      go_roundw
      case rel => exact ⟨i + 1, by omega, by go_num, (by repeat (first | exact Below.refl _ _ | assumption | refine Below.drew ?_ | refine below_drewN ?_ _ | refine Below.alloc' ?_ _ | (refine Below.setCell ?_ (by first | omega | (simp; done) | (simp; omega) | exact Below.size (by assumption) | exact Nat.le_trans (Below.size (by assumption)) (by simp)) _) | (refine Below.via' ?_ (by assumption)) | (refine Below.alloc ?_ (by first | omega | (simp; done) | (simp; omega) | exact Below.size (by assumption) | exact Nat.le_trans (Below.size (by assumption)) (by simp)) _) | (refine Below.via ?_ (by assumption) (by first | omega | (simp; done) | (simp; omega) | exact Below.size (by assumption) | exact Nat.le_trans (Below.size (by assumption)) (by simp)))))⟩
      case measure => simp [intOf]; omega
    · have hij : i = Q.length := by omega
      subst hij
      clear hx hyr
      go_wp2
      go_ret
      exact ⟨rfl, hb⟩

/-- A list of edits that comes in. -/
theorem open_edits {H : Type} {enc : TypeId × Value → H} {W : World} {base : Nat} {v : Value} {d : DataW H} {p : List MemPlace} (hv : Value.okWide Try.prog W .any base 23 v)
    (h : DataW.Trod enc Try.prog W 0 (fun _ => true) true 23 v d p) : ∃ x cap Q, v = .slice x Q.length cap ∧ Hid (EIn0 W x Q) ∧ Q.length ≤ 9223372036854775807 := by
  obtain ⟨a0, len, cap, rfl⟩ := okWide_slice Try.underlying23 hv
  obtain ⟨fuel, hf⟩ := h
  rcases Deep.open_slice Try.underlying23 hf with ⟨hcs, _⟩ | ⟨a, len', cap', m, n, D, P0, hcs, _, hl, hm, hmm, _, hi⟩
  · simp [Value.cells] at hcs
    obtain ⟨rfl, rfl, rfl⟩ := hcs
    exact ⟨none, 0, [], rfl, (show EIn0 W none [] from ⟨by simp, fun q hq => (by cases hq), Or.inl rfl⟩), by simp⟩
  · simp [Value.cells] at hcs
    obtain ⟨rfl, rfl, rfl⟩ := hcs
    simp only [if_true] at hmm
    subst hmm
    have each : ∀ i, i < m → ∃ q : PR, W.cell? (a.add i) = some q.v ∧ q.L.length ≤ 9223372036854775807 ∧ (∀ n ∈ q.L, IsI64 n) ∧ Rd W q.x (iC q.L) := by
      intro i him
      obtain ⟨cs, h1, h2⟩ := hi i him
      rw [cellsEdit] at h1
      obtain ⟨_, hlen, hcell⟩ := World.cells?_some h1
      obtain ⟨y0, n0, _, _, h0⟩ := trod_struct1 Try.underlying85 h2
      match cs, hlen with
      | [v0], _ =>
        simp only [show Try.prog.cellsOf 24 = 1 from by kernel_rfl, List.drop_zero, List.take_succ_cons, List.take_zero] at h0
        obtain ⟨x, cap, L, hcs, hl, hn, hr⟩ := open_intC h0
        simp at hcs
        subst hcs
        have e0 := hcell 0 (by omega)
        rw [Deep.add_add] at e0
        exact ⟨⟨0, 0, x, cap, L⟩, by simpa [PR.v] using e0, hl, hn.out, hr.out⟩
    haveI : Inhabited PR := ⟨⟨0, 0, none, 0, []⟩⟩
    obtain ⟨q, hq⟩ := Deep.choose_lt each
    have hlen : ((List.range len).map q).length = len := by simp
    refine ⟨some a, m, (List.range len).map q, by rw [hlen], (show EIn0 W (some a) _ from ⟨by rw [hlen]; unfold maxLen at hm; omega, fun r hr => ?_, ?_⟩), by rw [hlen]; unfold maxLen at hm; omega⟩
    · obtain ⟨i, hi1, rfl⟩ := List.mem_map.1 hr
      exact (hq i (by have := List.mem_range.1 hi1; omega)).2
    by_cases h0 : len = 0
    · subst h0
      exact Or.inl (by simp [eC])
    obtain ⟨b, off, spot⟩ := a
    have hc0 := (hq 0 (by omega)).1
    have hspot : spot = none := by simpa [Addr.add] using World.cell?_spot hc0
    subst hspot
    have hblk : b < W.heap.size := World.block_lt_of_cell? W _ (by simpa [Addr.add] using hc0)
    refine Or.inr ⟨b, off, rfl, hblk, fun j u hj => ?_⟩
    have hjl : j < len := by
      have := (List.getElem?_eq_some_iff.1 hj).1
      rw [eC_len, hlen] at this
      exact this
    have hat : ((List.range len).map q)[j]? = some (q j) := by
      rw [List.getElem?_map, List.getElem?_range hjl]
      rfl
    have k0 := (hq j (by omega)).1
    rw [addr_add] at k0
    have := eC_at hat
    rw [hj] at this
    cases this
    exact k0
end Go.Proofs.Ytgkaalonmkcclab
