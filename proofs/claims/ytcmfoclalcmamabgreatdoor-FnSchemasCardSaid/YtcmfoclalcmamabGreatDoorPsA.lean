import Derived.Test.YtcmfoclalcmamabGreatDoorSchQ
import Derived.Test.YtcmfoclalcmamabGreatDoorStp
namespace Go.Proofs.YtcmfoclalcmamabGreatDoor
open Go.RowKit
set_option maxRecDepth 100000

/-- How long the pieces are. -/
def szS (L : List ByteArray) : Nat := (L.map ByteArray.size).sum
theorem szS_ge : ∀ (L : List ByteArray), (∀ t ∈ L, 1 ≤ t.size) → L.length ≤ szS L
  | [], _ => Nat.le_refl _
  | t :: L, h => by
    have h1 := h t (by simp)
    have h2 := szS_ge L (fun u hu => h u (List.mem_cons_of_mem _ hu))
    unfold szS at h2 ⊢
    simp only [List.map_cons, List.sum_cons, List.length_cons]
    omega
theorem spS_sum (s : ByteArray) (b : UInt8) : ∀ i, i ≤ s.size → szS (spS s b i).1 + (spS s b i).1.length = (spS s b i).2
  | 0, _ => rfl
  | i + 1, h => by
    have ih := spS_sum s b i (by omega)
    have hle := (spS_le s b i).1
    unfold spS
    split
    · unfold szS at ih ⊢
      simp only [List.map_append, List.map_cons, List.map_nil, List.sum_append, List.sum_cons, List.sum_nil, List.length_append, List.length_cons, List.length_nil, ByteArray.size_extract]
      omega
    · exact ih
theorem spL_short (s : ByteArray) (b : UInt8) (h : ∀ t ∈ spL s b, 1 ≤ t.size) : 2 * (spL s b).length ≤ s.size + 2 := by
  have h1 := spS_sum s b s.size (Nat.le_refl _)
  have h2 := szS_ge (spS s b s.size).1 (fun t ht => h t (by unfold spL; exact List.mem_append_left _ ht))
  have h3 := (spS_le s b s.size).1
  unfold spL
  simp only [List.length_append, List.length_cons, List.length_nil]
  omega
theorem sPc_pos {t : ByteArray} (h : sPc t ≠ none) : 1 ≤ t.size := by
  have h1 := spL_len t 58
  unfold sPc at h
  split at h
  · rename_i e
    rw [e] at h1
    simp at h1
    omega
  · exact absurd rfl h
theorem mapO_mem {f : ByteArray → Option (ByteArray × Int)} {L : List ByteArray} {S : List (ByteArray × Int)} (h : mapO f L = some S) : ∀ t ∈ L, f t ≠ none := by
  intro t ht e
  obtain ⟨i, hi, et⟩ := List.getElem_of_mem ht
  rw [mapO_bad f L i t (by rw [List.getElem?_eq_getElem hi, et]) e] at h
  cases h
theorem sLo_short {s : ByteArray} {S : List (ByteArray × Int)} (h : sLo s = some S) : 2 * S.length ≤ s.size + 2 := by
  have h1 := mapO_len _ _ _ h
  rw [h1]
  exact spL_short s 44 (fun t ht => sPc_pos (mapO_mem h t ht))
theorem rdZ_bd (s : ByteArray) : -1 ≤ rdZ s ∧ rdZ s < 1000000 := by
  unfold rdZ
  cases h : rdB (nmL s) with
  | false => simp
  | true =>
    unfold rdB at h
    simp only [Bool.and_eq_true, decide_eq_true_eq, List.all_eq_true] at h
    have := dgV_lt (nmL s).length (nmL s) rfl h.2
    have h6 : 10 ^ (nmL s).length ≤ 10 ^ 6 := Nat.pow_le_pow_right (by omega) h.1.1.2
    have h7 : 10 ^ 6 = 1000000 := rfl
    simp only [if_true]
    omega
/-- What a reading of the pieces has: names no longer than the text, numbers of Go. -/
def OkV (n : Nat) (S : List (ByteArray × Int)) : Prop := ∀ p ∈ S, p.1.size ≤ n ∧ IsI64 p.2
theorem OkV.snoc {n : Nat} {S : List (ByteArray × Int)} {p : ByteArray × Int} (h : OkV n S) (h1 : p.1.size ≤ n) (h2 : IsI64 p.2) : OkV n (S ++ [p]) := by
  intro q hq
  rcases List.mem_append.1 hq with hq | hq
  · exact h q hq
  · simp at hq
    subst hq
    exact ⟨h1, h2⟩
/-- What ParseSchema hands back. -/
def PsPost (s : ByteArray) (w : World) (e : Ending) (w' : World) : Prop :=
  Below w.heap.size w w' ∧ ((∃ S g cap, prO s = some S ∧ e = .returned (.tuple #[.slice (some ⟨g, 0, none⟩) S.length cap, .bool true]) ∧ w'.ownsRow w.heap.size 99 2 (.slice (some ⟨g, 0, none⟩) S.length cap) S.length (vC S)) ∨
    (prO s = none ∧ e = .returned (.tuple #[.slice none 0 0, .bool false])))

end Go.Proofs.YtcmfoclalcmamabGreatDoor

namespace Go.Proofs.YtcmfoclalcmamabGreatDoor
open Go.RowKit
set_option maxRecDepth 100000

theorem cells_rd (w : World) (L : List ByteArray) (N : Nat) (t : TypeId) : Rd (w.alloc (.cells (Lib.cellsOf L N) t)) (some ⟨w.heap.size, 0, none⟩) (tC L) := by
  refine Or.inr ⟨w.heap.size, 0, rfl, by simp, fun j u hj => ?_⟩
  rw [Nat.zero_add, World.cell?_alloc_at _ _ _ _ rfl]
  unfold Lib.cellsOf
  rw [List.getElem?_toArray, List.getElem?_append_left]
  · exact hj
  · have := (List.getElem?_eq_some_iff.1 hj).1
    unfold tC at this
    exact this
theorem iPs_len (s : ByteArray) : 1 ≤ (iPs s).length ∧ (iPs s).length ≤ 7 := by
  unfold iPs
  have h := Lib.splitB_length_le ⟨#[44]⟩ 0 (min 7 (s.size + 1) - 1) s
  refine ⟨?_, by omega⟩
  cases hk : min 7 (s.size + 1) - 1 with
  | zero => rw [Lib.splitB_zero]; simp
  | succ k =>
    unfold Lib.splitB
    split <;> simp
theorem splitN_x (s : ByteArray) (w : World) (hm : s.size ≤ 1048576) (hL : LibV w) :
    Calls Tryz.prog 127 #[.string s, .string ⟨#[44]⟩, .int .i64 7] w fun e w' => ∃ cap, e = .returned (.slice (some ⟨w.heap.size, 0, none⟩) (iPs s).length cap) ∧ Rd w' (some ⟨w.heap.size, 0, none⟩) (tC (iPs s)) ∧ Below w.heap.size w w' := by
  obtain ⟨⟨m, hm1⟩, _⟩ := hL
  refine (Tryz.strings_SplitN s ⟨#[44]⟩ 7 m w (by omega) hm1 (by decide) (by omega) (by omega)).mono ?_
  rintro e w' ⟨rfl, rfl⟩
  exact ⟨_, rfl, cells_rd _ _ _ _, (Below.refl _ _).alloc (Nat.le_refl _) _⟩

/-- What the loose reading hands back. -/
def LoPost (s : ByteArray) (w : World) (e : Ending) (w' : World) : Prop :=
  Below w.heap.size w w' ∧ ((∃ S g, iLo s = some S ∧ 1 ≤ S.length ∧ S.length ≤ 7 ∧ OkV s.size S ∧ e = .returned (.tuple #[.slice (some ⟨g, 0, none⟩) S.length S.length, .bool true]) ∧ w'.ownsRow w.heap.size 99 2 (.slice (some ⟨g, 0, none⟩) S.length S.length) S.length (vC S)) ∨
    (iLo s = none ∧ e = .returned (.tuple #[.slice none 0 0, .bool false])))

set_option maxHeartbeats 2000000 in
theorem looseSchema_any (s : ByteArray) (w : World) (hm : s.size ≤ 1048576) (hL : LibV w) :
    Calls Tryz.prog 72 #[.string s] w (LoPost s w) := by
  obtain ⟨i0, hi, hz0, hz1, hz2⟩ := info_parts Tryz.infoVar
  obtain ⟨hP1, hP2⟩ := iPs_len s
  have hbb : i0.bytes * (iPs s).length ≤ 281474976710656 := by rw [hz2]; omega
  have hmm : (iPs s).length ≤ maxLen := by unfold maxLen; omega
  replace hL := Lib.hid hL
  go_enter Tryz.func72, Tryz.ntmps72
  go_wp2_with fail
  refine (splitN_x s _ hm hL.out).mono ?_
  rintro e w1 ⟨cap, rfl, hrd, hb1⟩
  have HP := Lib.hid hrd
  have hs1 := hb1.size
  have hg1 : w.heap.size < w1.heap.size := by
    rcases hrd with h | ⟨b, off, e, hl, _⟩
    · have := tC_len (iPs s)
      rw [h] at this
      simp at this
      omega
    · injection e with e
      injection e with e
      omega
  clear hrd
  go_wp2_with (at_make; go_loud (refine wpList_make_full _ rfl _ _ 23 rfl w1.heap.size 99 i0 (.agg #[.string ⟨#[]⟩, .int .i64 0]) 2 Tryz.underlying23 hi hz0 hz1 .i64 .i64 _ _ (iPs s).length rfl rfl rfl rfl hbb hmm (Nat.le_refl _) (fun w2 hown hgrow => ?_)))
  have hb2 : Below w1.heap.size w1 w2 := (Below.refl _ _).grown hgrow (Nat.le_refl _) (by intro k hk; cases hk)
  have hb3 : Below w.heap.size w w2 := hb1.trans (hb2.mono hs1)
  clear hgrow hi hz0 hz1 hz2 hbb hmm
  go_loopw [20] (fun c wr => ∃ (i : Nat) (xs : List Value) (T : List (ByteArray × Int)), i ≤ (iPs s).length ∧ c = .int .i64 i ∧ Hid (mapO iPc ((iPs s).take i) = some T) ∧ Hid (T.length = i) ∧ Hid (OkV s.size T) ∧ wr.ownsRow w1.heap.size 99 2 (.slice (some ⟨w1.heap.size, 0, none⟩) (iPs s).length (iPs s).length) (iPs s).length xs ∧ Hid (∀ j, j < i * 2 → xs[j]? = (vC T)[j]?) ∧ Below w.heap.size w wr ∧ Below w1.heap.size w1 wr) (fun c _ => (iPs s).length - (intOf c).toNat)
  case atStart => exact ⟨0, _, [], by omega, rfl, rfl, rfl, (fun p hp => by cases hp), hown, (fun j hj => absurd hj (by omega)), hb3, hb2⟩
  case round =>
    clear hown hb1 hb2 hb3
    obtain ⟨i, xs, T, hi, rfl, hmo, hTl, hok, hown, hdone, hb, hbx⟩ := hrel
    have hbs := hb.size
    have hbsx := hbx.size
    by_cases hlt : i < (iPs s).length
    · obtain ⟨bl, off, t, hx, hbl, hPi, hc0⟩ := (HP.out.below hbx).text hlt
      injection hx with hx
      injection hx with hx1 hx2
      subst hx1 hx2
      rw [Nat.zero_add] at hc0
      have hts : t.size ≤ s.size := split_sizes _ _ _ t (List.mem_of_getElem? hPi)
      obtain ⟨hsA, hsB⟩ := cut_sizes t 58
      replace hPi := Lib.hid hPi
      obtain ⟨u, hu, k0⟩ := own_cell hown (j := i * 2) (by omega)
      obtain ⟨u', hu', k1⟩ := own_cell hown (j := i * 2 + 1) (by omega)
      have k2 := hown.frozenAt (i * 2)
      have k3 := hown.frozenAt (i * 2 + 1)
      have k4 := (own_lt hown).2
      replace hu := Lib.hid hu
      replace hu' := Lib.hid hu'
      have hlt' : (i : Int) < ((iPs s).length : Int) := by omega
      have hi0 : (0 : Int) ≤ (i : Int) := by omega
      go_wp2_with fail
      refine (cut_x t 58 _ (by omega) (hL.out.below hb)).mono ?_
      rintro e w3 ⟨rfl, hb4⟩
      have hb4' : Below w.heap.size w w3 := hb.trans (hb4.mono hbs)
      go_wp2_with fail
      refine (atoi_any (cutB t 58) _ (by omega) (hL.out.below hb4')).mono ?_
      rintro e w4 ⟨hb5, h5⟩
      have hb6 : Below wr.heap.size wr w4 := hb4.trans (hb5.mono hb4.size)
      have hb6' : Below w.heap.size w w4 := hb.trans (hb6.mono hbs)
      have hb6x : Below w1.heap.size w1 w4 := hbx.trans (hb6.mono hbsx)
      have ho4 := own_below hown hb6
      have k0' : w4.cell? ⟨w1.heap.size, i * 2, none⟩ = some u := (hb6.cell k4).trans k0
      have k1' : w4.cell? ⟨w1.heap.size, i * 2 + 1, none⟩ = some u' := (hb6.cell k4).trans k1
      have k2' : w4.frozen? ⟨w1.heap.size, i * 2, none⟩ = false := (hb6.frozen k4).trans k2
      have k3' : w4.frozen? ⟨w1.heap.size, i * 2 + 1, none⟩ = false := (hb6.frozen k4).trans k3
      clear hown k0 k1 k2 k3 hb4 hb4' hb5 hc0
      rcases h5 with ⟨v, hv, rfl⟩ | ⟨hv, v, tt, pp, rfl⟩
      · have hnx : Hid (mapO iPc ((iPs s).take (i + 1)) = some (T ++ [(cutA t 58, v)])) := by
          unfold Hid
          rw [take_snoc hPi.out]
          exact mapO_snoc _ _ _ _ _ hmo.out (by unfold iPc; rw [hv]; rfl)
        have hok2 : Hid (OkV s.size (T ++ [(cutA t 58, v)])) := OkV.snoc hok.out (show (cutA t 58).size ≤ s.size by omega) (atV_i64 hv)
        replace hv := Lib.hid hv
        go_wp2_with fail
        go_roundw
        case rel =>
          refine ⟨i + 1, _, T ++ [(cutA t 58, v)], by omega, by go_num, hnx, (by unfold Hid; have := hTl.out; simp; omega), hok2, ((ho4.stored (i * 2) (.string (cutA t 58))).1.stored (i * 2 + 1) (.int .i64 v)).1, ?_, ?_, ?_⟩
          · intro j hj
            have hlen : xs.length = (iPs s).length * 2 := by rw [ho4.1]
            have hvl : (vC T).length = i * 2 := by rw [vC_len, hTl.out]
            rw [List.getElem?_set, List.getElem?_set, vC_app, vC_two]
            split
            · rename_i hj1
              rw [if_pos (by simp; omega), List.getElem?_append_right (by omega), hvl, show j - i * 2 = 1 by omega]
              rfl
            · split
              · rename_i hj1
                subst hj1
                rw [if_pos (by omega), List.getElem?_append_right (by omega), hvl, Nat.sub_self]
                rfl
              · rw [List.getElem?_append_left (by omega)]
                exact hdone.out j (by omega)
          · exact (hb6'.setCell (p := ⟨w1.heap.size, i * 2, none⟩) hs1 _).setCell (p := ⟨w1.heap.size, i * 2 + 1, none⟩) hs1 _
          · exact (hb6x.setCell (p := ⟨w1.heap.size, i * 2, none⟩) (Nat.le_refl _) _).setCell (p := ⟨w1.heap.size, i * 2 + 1, none⟩) (Nat.le_refl _) _
        case measure => simp [intOf]; omega
      · have hno : Hid (iLo s = none) := by
          unfold Hid iLo
          exact mapO_bad _ _ i t hPi.out (by unfold iPc; rw [hv]; rfl)
        replace hv := Lib.hid hv
        go_wp2_with fail
        go_ret2
        exact ⟨hb6', Or.inr ⟨hno.out, rfl⟩⟩
    · have hij : i = (iPs s).length := by omega
      subst hij
      have hlo : Hid (iLo s = some T) := by
        have := hmo.out
        rw [List.take_length] at this
        exact this
      have hxs : xs = vC T := by
        have hlen : xs.length = (iPs s).length * 2 := by rw [hown.1]
        have hvl : (vC T).length = (iPs s).length * 2 := by rw [vC_len, hTl.out]
        apply List.ext_getElem?
        intro j
        rcases Nat.lt_or_ge j ((iPs s).length * 2) with hj | hj
        · exact hdone.out j hj
        · rw [List.getElem?_eq_none (by omega), List.getElem?_eq_none (by omega)]
      subst hxs
      replace hown := Lib.hid (own_more hown hs1)
      clear hdone hmo
      go_wp2_with fail
      go_ret2
      refine ⟨hb, Or.inl ⟨T, w1.heap.size, hlo.out, by rw [hTl.out]; omega, by rw [hTl.out]; omega, hok.out, by rw [hTl.out]; rfl, ?_⟩⟩
      rw [hTl.out]
      exact hown.out

set_option maxHeartbeats 2000000 in
theorem iPS_x (s : ByteArray) (w : World) (hm : s.size ≤ 1048576) (hL : LibV w) :
    Calls Tryz.prog 17 #[.string s] w (PsPost s w) := by
  go_enter Tryz.func17, Tryz.ntmps17
  go_wp2_with fail
  refine (looseSchema_any s _ hm hL).mono ?_
  rintro e w1 ⟨hb1, h | h⟩
  · obtain ⟨S, g, hlo, hS1, hS7, hok, rfl, hown⟩ := h
    have hin : Hid (SIn w1 (some ⟨g, 0, none⟩) S.length S) := ⟨by omega, Nat.le_refl _, fun p hp => ⟨by have := (hok p hp).1; omega, (hok p hp).2⟩, Rd.of_own hown⟩
    have hp := prO_prog (s := s)
    rw [hlo] at hp
    simp only at hp
    replace hlo := Lib.hid hlo
    replace hown := Lib.hid hown
    replace hok := Lib.hid hok
    have hs1 := hb1.size
    cases hsc : schB S
    · rw [if_neg (by rw [hsc]; simp)] at hp
      replace hp := Lib.hid hp
      go_wp2_with fail
      refine (iST_x _ _ _ _ hin.out).mono ?_
      rintro e w2 ⟨rfl, hb2⟩
      have hb2' : Below w.heap.size w w2 := hb1.trans (hb2.mono hs1)
      go_wp2_with fail
      go_ret2
      exact ⟨hb2', Or.inr ⟨hp.out, rfl⟩⟩
    · have hst : stR S = stT S := by unfold stR; rw [hsc]; rfl
      cases he : ((stR S).toList == s.toList)
      · have hc : ¬ (schB S = true ∧ (stT S).data.toList = s.data.toList) := by
          rintro ⟨_, h⟩
          rw [str_eq, decide_eq_false_iff_not, hst] at he
          exact he h
        rw [if_neg hc] at hp
        clear hc
        have he2 : ((stR S).toList != s.toList) = true := by rw [bne, he]; rfl
        replace hp := Lib.hid hp
        replace hst := Lib.hid hst
        go_wp2_with fail
        refine (iST_x _ _ _ _ hin.out).mono ?_
        rintro e w2 ⟨rfl, hb2⟩
        have hb2' : Below w.heap.size w w2 := hb1.trans (hb2.mono hs1)
        go_wp2_with fail
        go_ret2
        exact ⟨hb2', Or.inr ⟨hp.out, rfl⟩⟩
      · have hc : schB S = true ∧ (stT S).data.toList = s.data.toList := by
          rw [str_eq, decide_eq_true_eq, hst] at he
          exact ⟨hsc, he⟩
        rw [if_pos hc] at hp
        clear hc
        have he2 : ((stR S).toList != s.toList) = false := by rw [bne, he]; rfl
        replace hp := Lib.hid hp
        replace hst := Lib.hid hst
        go_wp2_with fail
        refine (iST_x _ _ _ _ hin.out).mono ?_
        rintro e w2 ⟨rfl, hb2⟩
        have hb2' : Below w.heap.size w w2 := hb1.trans (hb2.mono hs1)
        have ho2 := Lib.hid (own_below hown.out hb2)
        go_wp2_with fail
        go_ret2
        exact ⟨hb2', Or.inl ⟨S, g, S.length, hp.out, rfl, ho2.out⟩⟩
  · obtain ⟨hlo, rfl⟩ := h
    have hp : Hid (prO s = none) := by
      unfold Hid
      rw [prO_prog, hlo]
    replace hlo := Lib.hid hlo
    go_wp2_with fail
    go_ret2
    exact ⟨hb1, Or.inr ⟨hp.out, rfl⟩⟩

/-- The list and the answer's second part. -/
def psL (s : ByteArray) : List (ByteArray × Int) := (prO s).getD []
def psB (s : ByteArray) : Bool := (prO s).isSome
theorem psL_len (s : ByteArray) : (psL s).length ≤ 6 := by
  unfold psL
  cases h : prO s with
  | none => simp
  | some S => exact (schB_len (prO_some h).1).2
def PsRes (s : ByteArray) (w : World) (e : Ending) (w' : World) : Prop :=
  ∃ u, e = .returned (.tuple #[u, .bool (psB s)]) ∧ w'.ownsRow w.heap.size 99 2 u (psL s).length (vC (psL s)) ∧ Below w.heap.size w w'
theorem PsPost.res {s : ByteArray} {w w' : World} {e : Ending} (h : PsPost s w e w') : PsRes s w e w' := by
  obtain ⟨hb, ⟨S, g, cap, hp, rfl, ho⟩ | ⟨hp, rfl⟩⟩ := h
  · have e1 : psL s = S := by unfold psL; rw [hp]; rfl
    have e2 : psB s = true := by unfold psB; rw [hp]; rfl
    unfold PsRes
    rw [e1, e2]
    exact ⟨_, rfl, ho, hb⟩
  · have e1 : psL s = [] := by unfold psL; rw [hp]; rfl
    have e2 : psB s = false := by unfold psB; rw [hp]; rfl
    unfold PsRes
    rw [e1, e2]
    exact ⟨_, rfl, World.ownsRow_nil _ _ _ _, hb⟩
end Go.Proofs.YtcmfoclalcmamabGreatDoor
