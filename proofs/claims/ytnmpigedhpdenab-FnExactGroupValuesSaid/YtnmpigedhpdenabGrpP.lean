/-
  The walks of chapter 2: the model's increasing list of the groups that are met.
-/
import Derived.Test.YtnmpigedhpdenabGrpW
namespace Go.Proofs.Ytnmpigedhpdenab
open Go.RowKit
set_option maxRecDepth 100000

def PutPost (base : Nat) (L : List Int) (x : Int) (w : World) (e : Ending) (w' : World) : Prop :=
  ∃ v, e = .returned v ∧ w'.ownsRow base 3 1 v (putL L x).length (iC (putL L x)) ∧ Below w.heap.size w w'
theorem Rd.drop {w : World} {g : Nat} {xs : List Value} (h : Rd w (some ⟨g, 0, none⟩) xs) (k : Nat) : Rd w (some ⟨g, k, none⟩) (xs.drop k) := by
  rcases h with h | ⟨b, off, e, hl, hc⟩
  · exact Or.inl (by rw [h]; simp)
  · injection e with e
    injection e with e1 e2
    subst e1 e2
    refine Or.inr ⟨g, k, rfl, hl, fun j u hj => ?_⟩
    rw [List.getElem?_drop] at hj
    have := hc _ _ hj
    rwa [Nat.zero_add] at this
theorem Rd.one (w : World) (t : TypeId) (n : Int) : Rd (w.alloc (.cells #[.int .i64 n] t)) (some ⟨w.heap.size, 0, none⟩) (iC [n]) := by
  refine Or.inr ⟨w.heap.size, 0, rfl, by simp, fun j u hj => ?_⟩
  have : j = 0 := by
    have := (List.getElem?_eq_some_iff.1 hj).1
    simp [iC] at this
    exact this
  subst this
  simp [iC] at hj
  subst hj
  rw [World.cell?_alloc_at _ _ _ _ rfl]
  rfl
theorem iC_app (A B : List Int) : iC (A ++ B) = iC A ++ iC B := by unfold iC; rw [List.map_append]
theorem iC_drop (L : List Int) (k : Nat) : iC (L.drop k) = (iC L).drop k := by unfold iC; rw [List.map_drop]
theorem iC_at' {L : List Int} {i : Nat} {v : Int} (h : (iC L)[i]? = some (.int .i64 v)) : L[i]? = some v := by
  unfold iC at h
  rw [List.getElem?_map] at h
  cases hL : L[i]? with
  | none => rw [hL] at h; cases h
  | some u =>
    rw [hL] at h
    simp at h
    rw [h]

theorem put_in {L : List Int} {x : Int} (h : x ∈ L) : putL L x = L := if_pos h
theorem put_at {L : List Int} {x : Int} {k : Nat} (hk : k ≤ L.length) (hI : Inc L) (h1 : ∀ j v, j < k → L[j]? = some v → v < x) (h2 : k < L.length → ∀ v, L[k]? = some v → x < v) :
    putL L x = L.take k ++ x :: L.drop k ∧ (putL L x).length = L.length + 1 := by
  have e := plK_of hk h1 (fun hl v hv => by have := h2 hl v hv; omega)
  have hn : x ∉ L := by
    intro hx
    obtain ⟨j, hj, ej⟩ := List.getElem_of_mem hx
    have hjx : L[j]? = some x := by rw [List.getElem?_eq_getElem hj, ej]
    rcases Nat.lt_or_ge j k with h | h
    · have := h1 j x h hjx
      omega
    · have hkl : k < L.length := by omega
      have a := h2 hkl L[k] (List.getElem?_eq_getElem hkl)
      rcases Nat.lt_or_ge k j with h' | h'
      · have := List.pairwise_iff_getElem.1 hI k j hkl hj h'
        omega
      · have : j = k := by omega
        subst this
        omega
  refine ⟨?_, by rw [putL_len, if_neg hn]⟩
  unfold putL
  rw [if_neg hn, e]

set_option maxHeartbeats 2000000 in
theorem l1Put_nil (x : Int) (base : Nat) (w : World) (hbase : base ≤ w.heap.size) :
    Calls Try.prog 167 #[.slice none 0 0, .int .i64 x] w (PutPost base [] x w) := by
  obtain ⟨i0, hi, hz0, hz1, hz2⟩ := info_parts Try.infoInt
  have ho0 := World.ownsRow_made (e := 3) (size := 1) w #[] 0 hbase (by unfold maxLen; omega) (by simp)
  go_enter Try.func167, Try.ntmps167
  go_wp2
  refine wp_loop_rounds 1 ?_
  rw [rounds_succ]
  go_wp2_with (first
    | (at_builtin; refine wpList_append_rd _ rfl (.tmp 34) (.tmp 37) 23 rfl base 3 i0 (.int .i64 0) 1 8 Try.underlying23 hi hz0 hz1 hz2 rfl (by decide) _ 0 [] rfl ho0 _ 0 0 rfl (Nat.le_refl _) (fun _ => rfl) [] rfl (Rd.nil _ _) (by simp) (by unfold maxLen; omega) (by omega) (by simp; omega) ?_; intro v1 w1 hown1 hgrow1 hwhere1; (have hbs1 : base ≤ w1.heap.size := by (have := hgrow1.size; simp at this; omega)); (have hownB := own_eq (hown1.alloc (.cells #[.int .i64 x] 3)) (Nat.zero_add 0) rfl))
    | (at_builtin; refine wpList_append_rd _ rfl (.tmp 39) (.tmp 41) 23 rfl base 3 i0 (.int .i64 0) 1 8 Try.underlying23 hi hz0 hz1 hz2 rfl (by decide) v1 0 [] rfl hownB _ 1 1 rfl (Nat.le_refl _) (by intro h; cases h) (iC [x]) rfl (Rd.one _ _ _) (iC_one _) (by unfold maxLen; omega) (by omega) (by simp; omega) ?_; intro v2 w2 hown2 hgrow2 hwhere2; (have hbs2 : base ≤ w2.heap.size := by (have := hgrow2.size; simp at this; omega)); (have hownC := own_eq hown2 (Nat.zero_add 1) (List.nil_append _)))
    | (at_builtin; refine wpList_append_rd _ rfl (.tmp 43) (.tmp 46) 23 rfl base 3 i0 (.int .i64 0) 1 8 Try.underlying23 hi hz0 hz1 hz2 rfl (by decide) v2 1 (iC [x]) rfl hownC _ 0 0 rfl (Nat.le_refl _) (fun _ => rfl) [] rfl (Rd.nil _ _) (by simp) (by unfold maxLen; omega) (by omega) hbs2 ?_; intro v3 w3 hown3 hgrow3 hwhere3))
  have hb3 : Below w.heap.size w w3 := by
    have hbA : Below w.heap.size w w1 := ((Below.refl _ _).alloc (Nat.le_refl _) _).grown hgrow1 (by simp) (fun k hk => by injection hk with hk; exact Nat.le_of_eq hk)
    have hw1 := hbA.size
    have hv1 : ∀ k, v1.ownBlock = some k → w.heap.size ≤ k := fun k hk => by
      rcases hwhere1 with h | h
      · rw [h] at hk; injection hk with hk; exact Nat.le_of_eq hk
      · rw [h] at hk; injection hk with hk; simp at hk; omega
    have hbB : Below w.heap.size w w2 := (hbA.alloc hw1 _).grown hgrow2 (by simp; omega) hv1
    have hv2 : ∀ k, v2.ownBlock = some k → w.heap.size ≤ k := fun k hk => by
      rcases hwhere2 with h | h
      · rw [h] at hk; exact hv1 k hk
      · rw [h] at hk; injection hk with hk; simp at hk; omega
    exact hbB.grown hgrow3 hbB.size hv2
  have hfin := Lib.hid (own_eq (n' := 1) (ys := iC [x]) hown3 rfl (by simp))
  go_ret
  exact ⟨v3, rfl, hfin.out, hb3⟩

theorem own_take {w : World} {base e g n cap : Nat} {L : List Int} (h : w.ownsRow base e 1 (.slice (some ⟨g, 0, none⟩) n cap) n (iC L)) (k : Nat) : Rd w (some ⟨g, 0, none⟩) (iC (L.take k)) := by rw [iC_take]; exact (Rd.of_own h).take k
theorem own_drop {w : World} {base e g n cap : Nat} {L : List Int} (h : w.ownsRow base e 1 (.slice (some ⟨g, 0, none⟩) n cap) n (iC L)) (k : Nat) : Rd w (some ⟨g, k, none⟩) (iC (L.drop k)) := by rw [iC_drop]; exact (Rd.of_own h).drop k

set_option maxHeartbeats 4000000 in
theorem l1Put_some (g cap n : Nat) (L : List Int) (x : Int) (base : Nat) (w : World) (hm : L.length ≤ 1000) (hn : n = L.length) (h0 : 0 < n) (hI : Inc L) (hbase : base ≤ w.heap.size) (hown : w.ownsRow base 3 1 (.slice (some ⟨g, 0, none⟩) n cap) n (iC L)) :
    Calls Try.prog 167 #[.slice (some ⟨g, 0, none⟩) n cap, .int .i64 x] w (PutPost base L x w) := by
  obtain ⟨i0, hi, hz0, hz1, hz2⟩ := info_parts Try.infoInt
  have ho0 := World.ownsRow_made (e := 3) (size := 1) w #[] 0 hbase (by unfold maxLen; omega) (by simp)
  have hRh := Lib.hid (Rd.of_own hown)
  have hcap : n ≤ cap := by
    rcases hown.2 with ⟨h1, h2⟩ | ⟨g', c, cur, hv, _, _, h3, _⟩
    · omega
    · injection hv with _ _ hc; omega
  have hn1 : n ≤ 1000 := by omega
  have hRT := fun k => Lib.hid (own_take hown k)
  have hRD := fun k => Lib.hid (own_drop hown k)
  replace hn := Lib.hid hn
  replace hI := Lib.hid hI
  go_enter Try.func167, Try.ntmps167
  go_wp2
  go_loop [5] (fun c => ∃ k : Nat, k ≤ n ∧ c = .int .i64 k ∧ Hid (∀ j v, j < k → L[j]? = some v → v < x)) (fun c => n - (intOf c).toNat)
  case atStart => exact ⟨0, by omega, rfl, fun j v hj => absurd hj (by omega)⟩
  case round =>
    obtain ⟨k, hk, rfl, hlow⟩ := hrel
    by_cases hlt : k < n
    · obtain ⟨bl, off, v, hx, hbl, hLk, hc0⟩ := hRh.out.int (i := k) (by have := hn.out; omega)
      injection hx with hx
      injection hx with hx1 hx2
      subst hx1 hx2
      rw [Nat.zero_add] at hc0
      have hlt' : (k : Int) < (n : Int) := by omega
      by_cases hvx : v < x
      · replace hLk := Lib.hid hLk
        go_wp2
        go_round
        case rel =>
          refine ⟨k + 1, by omega, by go_num, fun j u hj hu => ?_⟩
          rcases Nat.lt_or_ge j k with h | h
          · exact hlow.out j u h hu
          · obtain rfl : j = k := by omega
            have := hLk.out.symm.trans hu
            injection this with this
            omega
        case measure => simp [intOf]; omega
      by_cases hxe : v = x
      · subst hxe
        have hp := Lib.hid (put_in (List.mem_of_getElem? hLk))
        replace hown := Lib.hid hown
        clear hLk
        go_wp2
        go_ret
        refine ⟨_, rfl, ?_, Below.refl _ _⟩
        rw [hp.out, ← hn.out]
        exact hown.out
      have hxe' : (v == x) = false := by rw [beq_eq_false_iff_ne]; exact hxe
      have hput := Lib.hid (put_at (x := x) (k := k) (by have := hn.out; omega) hI.out hlow.out (fun _ u hu => by have := hLk.symm.trans hu; injection this with this; omega))
      have hkc : k ≤ cap := by omega
      have hck : ¬ cap = k := by omega
      have hck' : ¬ (cap : Int) = (k : Int) := by omega
      have hl1 := Lib.hid (show (iC (L.take k)).length = k * 1 by rw [iC_len, List.length_take]; have := hn.out; omega)
      have hl2 := Lib.hid (show (iC (L.drop k)).length = (n - k) * 1 by rw [iC_len, List.length_drop]; have := hn.out; omega)
      have HRA := hRT k
      have HRC := hRD k
      replace hLk := Lib.hid hLk
      clear hRT hRD hown
      go_wp2_with (first
        | (at_builtin; refine wpList_append_rd _ rfl (.tmp 34) (.tmp 37) 23 rfl base 3 i0 (.int .i64 0) 1 8 Try.underlying23 hi hz0 hz1 hz2 rfl (by decide) _ 0 [] rfl ho0 _ k cap rfl hkc (by intro h; cases h) (iC (L.take k)) hl1.out (HRA.out.alloc _) (iC_one _) (by unfold maxLen; omega) (by omega) (by simp; omega) ?_; intro v1 w1 hown1 hgrow1 hwhere1; (have hh1 := append_below (Below.refl _ _) (fun k hk => by injection hk with hk; exact Nat.le_of_eq hk) hgrow1 hwhere1); (have hs1 := hh1.1.size); (have hownB := own_eq (n' := k) (ys := iC (L.take k)) (hown1.alloc (.cells #[.int .i64 x] 3)) (Nat.zero_add k) (List.nil_append _)))
        | (at_builtin; refine wpList_append_rd _ rfl (.tmp 39) (.tmp 41) 23 rfl base 3 i0 (.int .i64 0) 1 8 Try.underlying23 hi hz0 hz1 hz2 rfl (by decide) v1 k (iC (L.take k)) rfl hownB _ 1 1 rfl (Nat.le_refl _) (by intro h; cases h) (iC [x]) rfl (Rd.one _ _ _) (iC_one _) (by unfold maxLen; omega) (by omega) (by simp; omega) ?_; intro v2 w2 hown2 hgrow2 hwhere2; (have hh2 := append_below hh1.1 hh1.2 hgrow2 hwhere2); (have hs2 := hh2.1.size))
        | (at_builtin; refine wpList_append_rd _ rfl (.tmp 43) (.tmp 46) 23 rfl base 3 i0 (.int .i64 0) 1 8 Try.underlying23 hi hz0 hz1 hz2 rfl (by decide) v2 (k + 1) (iC (L.take k) ++ iC [x]) rfl hown2 _ (n - k) (cap - k) rfl (by omega) (by intro h; cases h) (iC (L.drop k)) hl2.out (HRC.out.below hh2.1) (iC_one _) (by unfold maxLen; omega) (by omega) (by omega) ?_; intro v3 w3 hown3 hgrow3 hwhere3; (have hh3 := append_below0 hh2.1 hh2.2 hgrow3 hwhere3)))
      go_ret
      refine ⟨v3, rfl, own_eq hown3 ?_ ?_, hh3.1⟩
      · rw [hput.out.2]; have := hn.out; omega
      · rw [hput.out.1, iC_app, List.append_assoc, ← iC_app]; rfl
    · have hkn : k = n := by omega
      subst hkn
      have hput := Lib.hid (put_at (x := x) (k := k) (by have := hn.out; omega) hI.out hlow.out (fun hl => by have := hn.out; omega))
      have hkc : k ≤ cap := by omega
      have hl1 := Lib.hid (show (iC (L.take k)).length = k * 1 by rw [iC_len, List.length_take]; have := hn.out; omega)
      have hl2 := Lib.hid (show (iC (L.drop k)).length = 0 * 1 by rw [iC_len, List.length_drop]; have := hn.out; omega)
      have HRA := hRT k
      have HRN := Lib.hid (show ∀ W A, Rd W A (iC (L.drop k)) from fun W A => Or.inl (by rw [List.drop_of_length_le (by have := hn.out; omega)]; rfl))
      clear hRT hRD hown
      by_cases hck : cap = k
      · obtain rfl : k = cap := hck.symm
        go_wp2_with (first
          | (at_builtin; refine wpList_append_rd _ rfl (.tmp 34) (.tmp 37) 23 rfl base 3 i0 (.int .i64 0) 1 8 Try.underlying23 hi hz0 hz1 hz2 rfl (by decide) _ 0 [] rfl ho0 _ k k rfl hkc (by intro h; cases h) (iC (L.take k)) hl1.out (HRA.out.alloc _) (iC_one _) (by unfold maxLen; omega) (by omega) (by simp; omega) ?_; intro v1 w1 hown1 hgrow1 hwhere1; (have hh1 := append_below (Below.refl _ _) (fun k hk => by injection hk with hk; exact Nat.le_of_eq hk) hgrow1 hwhere1); (have hs1 := hh1.1.size); (have hownB := own_eq (n' := k) (ys := iC (L.take k)) (hown1.alloc (.cells #[.int .i64 x] 3)) (Nat.zero_add k) (List.nil_append _)))
          | (at_builtin; refine wpList_append_rd _ rfl (.tmp 39) (.tmp 41) 23 rfl base 3 i0 (.int .i64 0) 1 8 Try.underlying23 hi hz0 hz1 hz2 rfl (by decide) v1 k (iC (L.take k)) rfl hownB _ 1 1 rfl (Nat.le_refl _) (by intro h; cases h) (iC [x]) rfl (Rd.one _ _ _) (iC_one _) (by unfold maxLen; omega) (by omega) (by simp; omega) ?_; intro v2 w2 hown2 hgrow2 hwhere2; (have hh2 := append_below hh1.1 hh1.2 hgrow2 hwhere2); (have hs2 := hh2.1.size))
          | (at_builtin; refine wpList_append_rd _ rfl (.tmp 43) (.tmp 46) 23 rfl base 3 i0 (.int .i64 0) 1 8 Try.underlying23 hi hz0 hz1 hz2 rfl (by decide) v2 (k + 1) (iC (L.take k) ++ iC [x]) rfl hown2 _ (0) (0) rfl (by omega) (by intro h; cases h) (iC (L.drop k)) hl2.out (HRN.out _ _) (iC_one _) (by unfold maxLen; omega) (by omega) (by omega) ?_; intro v3 w3 hown3 hgrow3 hwhere3; (have hh3 := append_below0 hh2.1 hh2.2 hgrow3 hwhere3)))
        go_ret
        refine ⟨v3, rfl, own_eq hown3 ?_ ?_, hh3.1⟩
        · rw [hput.out.2]; have := hn.out; omega
        · rw [hput.out.1, iC_app, List.append_assoc, ← iC_app]; rfl
      · have hck' : ¬ (cap : Int) = (k : Int) := by omega
        go_wp2_with (first
          | (at_builtin; refine wpList_append_rd _ rfl (.tmp 34) (.tmp 37) 23 rfl base 3 i0 (.int .i64 0) 1 8 Try.underlying23 hi hz0 hz1 hz2 rfl (by decide) _ 0 [] rfl ho0 _ k cap rfl hkc (by intro h; cases h) (iC (L.take k)) hl1.out (HRA.out.alloc _) (iC_one _) (by unfold maxLen; omega) (by omega) (by simp; omega) ?_; intro v1 w1 hown1 hgrow1 hwhere1; (have hh1 := append_below (Below.refl _ _) (fun k hk => by injection hk with hk; exact Nat.le_of_eq hk) hgrow1 hwhere1); (have hs1 := hh1.1.size); (have hownB := own_eq (n' := k) (ys := iC (L.take k)) (hown1.alloc (.cells #[.int .i64 x] 3)) (Nat.zero_add k) (List.nil_append _)))
          | (at_builtin; refine wpList_append_rd _ rfl (.tmp 39) (.tmp 41) 23 rfl base 3 i0 (.int .i64 0) 1 8 Try.underlying23 hi hz0 hz1 hz2 rfl (by decide) v1 k (iC (L.take k)) rfl hownB _ 1 1 rfl (Nat.le_refl _) (by intro h; cases h) (iC [x]) rfl (Rd.one _ _ _) (iC_one _) (by unfold maxLen; omega) (by omega) (by simp; omega) ?_; intro v2 w2 hown2 hgrow2 hwhere2; (have hh2 := append_below hh1.1 hh1.2 hgrow2 hwhere2); (have hs2 := hh2.1.size))
          | (at_builtin; refine wpList_append_rd _ rfl (.tmp 43) (.tmp 46) 23 rfl base 3 i0 (.int .i64 0) 1 8 Try.underlying23 hi hz0 hz1 hz2 rfl (by decide) v2 (k + 1) (iC (L.take k) ++ iC [x]) rfl hown2 _ (0) (cap - k) rfl (by omega) (by intro h; cases h) (iC (L.drop k)) hl2.out (HRN.out _ _) (iC_one _) (by unfold maxLen; omega) (by omega) (by omega) ?_; intro v3 w3 hown3 hgrow3 hwhere3; (have hh3 := append_below0 hh2.1 hh2.2 hgrow3 hwhere3)))
        go_ret
        refine ⟨v3, rfl, own_eq hown3 ?_ ?_, hh3.1⟩
        · rw [hput.out.2]; have := hn.out; omega
        · rw [hput.out.1, iC_app, List.append_assoc, ← iC_app]; rfl
end Go.Proofs.Ytnmpigedhpdenab
