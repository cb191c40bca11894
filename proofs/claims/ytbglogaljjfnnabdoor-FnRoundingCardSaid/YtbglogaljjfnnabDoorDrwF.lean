/-
  The model's other draws of chapter 1: one fraction; a fraction and an exponent; a list of fractions.
-/
import Derived.Test.YtbglogaljjfnnabDoorPair
import Derived.Test.YtbglogaljjfnnabDoorSum
import Derived.Test.YtbglogaljjfnnabDoorApp
import Derived.Outline
namespace Go.Proofs.YtbglogaljjfnnabDoor
open Go.RowKit
set_option maxRecDepth 100000

set_option maxHeartbeats 1000000 in
theorem drawRound_any (x : Option Addr) (n cap : Nat) (w : World) (hx : 0 < n → ∀ c off, x = some ⟨c, off, none⟩ → c < w.heap.size) (hB : ByRd w x n) :
    Calls Tryd.prog 16 #[.slice x n cap] w (fun e w' => ∃ p q : Int, e = .returned (.agg #[.int .i64 p, .int .i64 q]) ∧ Below w.heap.size w w') := by
  have hx2 := Lib.hid hx
  have hB2 := Lib.hid hB
  clear hx hB
  have bw : Below w.heap.size w ((w.alloc (Obj.cells #[Value.int IntKind.i64 0, Value.int IntKind.i64 0] 24)).alloc (Obj.cells #[Value.slice x n cap, Value.int IntKind.i64 0, Value.int IntKind.u64 0] 49)) := ((Below.refl _ _).alloc (Nat.le_refl _) _).alloc (by simp) _
  have B0 := Lib.hid (show Blk ((w.alloc (Obj.cells #[Value.int IntKind.i64 0, Value.int IntKind.i64 0] 24)).alloc (Obj.cells #[Value.slice x n cap, Value.int IntKind.i64 0, Value.int IntKind.u64 0] 49)) w.heap.size (.int .i64 0) (.int .i64 0) from ⟨by go_simp, by go_simp, by go_simp, by go_simp, by simp; omega⟩)
  have C0 := Lib.hid (show CurAt ((w.alloc (Obj.cells #[Value.int IntKind.i64 0, Value.int IntKind.i64 0] 24)).alloc (Obj.cells #[Value.slice x n cap, Value.int IntKind.i64 0, Value.int IntKind.u64 0] 49)) (w.heap.size + 1) x n cap 0 from ⟨0, by go_simp, by go_simp, by go_simp, by go_simp, by go_simp, by simp, fun h0 c off e => by have := hx2.out h0 c off e; omega⟩)
  have D0 := Lib.hid (hB2.out.below bw)
  go_enter Tryd.func16, Tryd.ntmps16
  go_wp2_with fail
  refine (one_any (w.heap.size + 1) x n cap 0 2 _ (by omega) (by omega) (by omega) C0.out D0.out).mono ?_
  rintro e w1 ⟨t, k1, rfl, ka, kb, hC1, hg⟩
  have hB1 := Lib.hid (D0.out.grown hg C0.out.apart)
  have hC1 := Lib.hid hC1
  cases t
  · go_wp2_with fail
    refine (anyFrac_any (w.heap.size + 1) x n cap k1 _ (by omega) hC1.out hB1.out).mono ?_
    rintro e w2 ⟨r, s, k2, rfl, kc, kd, hC2, hg2⟩
    obtain ⟨s0, s1, s2, s3, s4⟩ := (B0.out.grown hg (by omega)).grown hg2 (by omega)
    have hb := below_of_grown bw (grown_trans hg hg2) (by omega)
    clear hC2
    go_wp2
    refine bodyPost_ret (v := .agg #[.int .i64 r, .int .i64 s]) (by simp [results, Tryd.results16, go_sem, *]) rfl ?_
    exact ⟨r, s, rfl, (by repeat (first | exact Below.refl _ _ | assumption | refine Below.drew ?_ | refine below_drewN ?_ _ | refine Below.alloc' ?_ _ | (refine Below.setCell ?_ (by first | omega | (simp; done) | (simp; omega) | exact Below.size (by assumption) | exact Nat.le_trans (Below.size (by assumption)) (by simp)) _) | (refine Below.via' ?_ (by assumption)) | (refine Below.alloc ?_ (by first | omega | (simp; done) | (simp; omega) | exact Below.size (by assumption) | exact Nat.le_trans (Below.size (by assumption)) (by simp)) _) | (refine Below.via ?_ (by assumption) (by first | omega | (simp; done) | (simp; omega) | exact Below.size (by assumption) | exact Nat.le_trans (Below.size (by assumption)) (by simp)))))⟩
  · go_wp2_with fail
    refine (pick_any (w.heap.size + 1) x n cap k1 20 _ (by omega) (by omega) (by omega) hC1.out hB1.out).mono ?_
    rintro e w2 ⟨v, k2, rfl, v0, v1, kc, kd, hC2, hg2⟩
    have B2 := Lib.hid ((B0.out.grown hg (by omega)).grown hg2 (by omega))
    have hb := below_of_grown bw (grown_trans hg hg2) (by omega)
    clear hC2
    go_wp2_with fail
    refine (fMake_x _ _ _ (by omega) (by omega) (by omega) (by omega)).mono ?_
    rintro e w3 ⟨rfl, hb3⟩
    have hq := B2.out.2.2.2.2
    obtain ⟨s0, s1, s2, s3, s4⟩ := B2.out.below hb3
    go_wp2
    refine bodyPost_ret (v := .agg #[.int .i64 (mkN (2 * v - 19) 2), .int .i64 (mkD (2 * v - 19) 2)]) (by simp [results, Tryd.results16, go_sem, *]) rfl ?_
    exact ⟨_, _, rfl, (by repeat (first | exact Below.refl _ _ | assumption | refine Below.drew ?_ | refine below_drewN ?_ _ | refine Below.alloc' ?_ _ | (refine Below.setCell ?_ (by first | omega | (simp; done) | (simp; omega) | exact Below.size (by assumption) | exact Nat.le_trans (Below.size (by assumption)) (by simp)) _) | (refine Below.via' ?_ (by assumption)) | (refine Below.alloc ?_ (by first | omega | (simp; done) | (simp; omega) | exact Below.size (by assumption) | exact Nat.le_trans (Below.size (by assumption)) (by simp)) _) | (refine Below.via ?_ (by assumption) (by first | omega | (simp; done) | (simp; omega) | exact Below.size (by assumption) | exact Nat.le_trans (Below.size (by assumption)) (by simp)))))⟩

set_option maxHeartbeats 1000000 in
theorem drawPow_any (x : Option Addr) (n cap : Nat) (w : World) (hx : 0 < n → ∀ c off, x = some ⟨c, off, none⟩ → c < w.heap.size) (hB : ByRd w x n) :
    Calls Tryd.prog 21 #[.slice x n cap] w (fun e w' => ∃ p q k : Int, e = .returned (.tuple #[.agg #[.int .i64 p, .int .i64 q], .int .i64 k]) ∧ Below w.heap.size w w') := by
  have hx2 := Lib.hid hx
  have hB2 := Lib.hid hB
  clear hx hB
  have bw : Below w.heap.size w ((w.alloc (Obj.cells #[Value.int IntKind.i64 0, Value.int IntKind.i64 0] 24)).alloc (Obj.cells #[Value.slice x n cap, Value.int IntKind.i64 0, Value.int IntKind.u64 0] 49)) := ((Below.refl _ _).alloc (Nat.le_refl _) _).alloc (by simp) _
  have B0 := Lib.hid (show Blk ((w.alloc (Obj.cells #[Value.int IntKind.i64 0, Value.int IntKind.i64 0] 24)).alloc (Obj.cells #[Value.slice x n cap, Value.int IntKind.i64 0, Value.int IntKind.u64 0] 49)) w.heap.size (.int .i64 0) (.int .i64 0) from ⟨by go_simp, by go_simp, by go_simp, by go_simp, by simp; omega⟩)
  have C0 := Lib.hid (show CurAt ((w.alloc (Obj.cells #[Value.int IntKind.i64 0, Value.int IntKind.i64 0] 24)).alloc (Obj.cells #[Value.slice x n cap, Value.int IntKind.i64 0, Value.int IntKind.u64 0] 49)) (w.heap.size + 1) x n cap 0 from ⟨0, by go_simp, by go_simp, by go_simp, by go_simp, by go_simp, by simp, fun h0 c off e => by have := hx2.out h0 c off e; omega⟩)
  have D0 := Lib.hid (hB2.out.below bw)
  go_enter Tryd.func21, Tryd.ntmps21
  go_wp2_with fail
  refine (anyFrac_any (w.heap.size + 1) x n cap 0 _ (by omega) C0.out D0.out).mono ?_
  rintro e w1 ⟨p, q, k1, rfl, ka, kb, hC1, hg⟩
  have hB1 := Lib.hid (D0.out.grown hg C0.out.apart)
  have hC1 := Lib.hid hC1
  have hlt := hC1.out.inside
  go_wp2_with fail
  refine (among_any (w.heap.size + 1) x n cap k1 w1.heap.size _ [0, 1, 2, 3, 5, 9, 30, 60, 61, -1] _ (by omega) (by simp) (by simp) (by omega) (IRd.lit w1 [0, 1, 2, 3, 5, 9, 30, 60, 61, -1] 3) (hC1.out.alloc _) (hB1.out.alloc _)).mono ?_
  rintro e w2 ⟨k, k2, rfl, -, kc, kd, hC2, hg2⟩
  have hg2 := grown_trans (grown_alloc (grown_refl w1 (some (w.heap.size + 1))) _) hg2
  have hb := below_of_grown bw (grown_trans hg hg2) (by omega)
  obtain ⟨s0, s1, s2, s3, s4⟩ := (B0.out.grown hg (by omega)).grown hg2 (by omega)
  clear hC2
  go_wp2
  refine bodyPost_ret (v := .tuple #[.agg #[.int .i64 p, .int .i64 q], .int .i64 k]) (by simp [results, Tryd.results21, go_sem, *]) rfl ?_
  exact ⟨p, q, k, rfl, (by repeat (first | exact Below.refl _ _ | assumption | refine Below.drew ?_ | refine below_drewN ?_ _ | refine Below.alloc' ?_ _ | (refine Below.setCell ?_ (by first | omega | (simp; done) | (simp; omega) | exact Below.size (by assumption) | exact Nat.le_trans (Below.size (by assumption)) (by simp)) _) | (refine Below.via' ?_ (by assumption)) | (refine Below.alloc ?_ (by first | omega | (simp; done) | (simp; omega) | exact Below.size (by assumption) | exact Nat.le_trans (Below.size (by assumption)) (by simp)) _) | (refine Below.via ?_ (by assumption) (by first | omega | (simp; done) | (simp; omega) | exact Below.size (by assumption) | exact Nat.le_trans (Below.size (by assumption)) (by simp)))))⟩

/-- The cells of a list of fractions. -/
def frC : List (Int × Int) → List Value
  | [] => []
  | p :: L => .int .i64 p.1 :: .int .i64 p.2 :: frC L
theorem frC_len : ∀ L : List (Int × Int), (frC L).length = L.length * 2
  | [] => rfl
  | p :: L => by simp only [frC, List.length_cons, frC_len L]; omega
theorem frC_app : ∀ (S T : List (Int × Int)), frC (S ++ T) = frC S ++ frC T
  | [], T => rfl
  | p :: S, T => by simp only [List.cons_append, frC, frC_app S T]
theorem frC_at : ∀ {S : List (Int × Int)} {i : Nat} {n d : Int}, S[i]? = some (n, d) → (frC S)[i * 2]? = some (.int .i64 n) ∧ (frC S)[i * 2 + 1]? = some (.int .i64 d)
  | [], i, n, d, h => by simp at h
  | p :: S, 0, n, d, h => by
    simp at h
    subst h
    exact ⟨rfl, rfl⟩
  | p :: S, i + 1, n, d, h => by
    rw [List.getElem?_cons_succ] at h
    have := frC_at h
    rw [show (i + 1) * 2 = i * 2 + 1 + 1 by omega]
    exact this
theorem frC_one : ∀ S : List (Int × Int), ∀ u ∈ frC S, u.oneCell' = true
  | [], u, h => by cases h
  | p :: S, u, h => by
    rcases List.mem_cons.1 h with rfl | h
    · rfl
    · rcases List.mem_cons.1 h with rfl | h
      · rfl
      · exact frC_one S u h
theorem frRd_of {w : World} {x : Option Addr} {L : List (Int × Int)} (h : Rd w x (frC L)) : FrRd w x L := by
  rcases h with h | ⟨b, off, e, hl, hc⟩
  · refine Or.inl (List.eq_nil_of_length_eq_zero ?_)
    have := frC_len L
    rw [h] at this
    simp at this
    omega
  · exact Or.inr ⟨b, off, e, hl, fun i n d hi => ⟨hc _ _ (frC_at hi).1, by have := hc _ _ (frC_at hi).2; rw [← Nat.add_assoc] at this; exact this⟩⟩
theorem Rd.oneF (w : World) (t : TypeId) (a b : Int) : Rd (w.alloc (.cells #[.int .i64 a, .int .i64 b] t)) (some ⟨w.heap.size, 0, none⟩) (frC [(a, b)]) := by
  refine Or.inr ⟨w.heap.size, 0, rfl, by simp, fun j u hj => ?_⟩
  rw [Nat.zero_add, World.cell?_alloc_at _ _ _ _ rfl, ← hj, ← Array.getElem?_toList]
  rfl
theorem Tryd.infoFr : (Tryd.prog.info? 24).map (fun i => (i.zero, i.size, i.bytes)) = some (some (.agg #[.int .i64 0, .int .i64 0]), 2, 16) := by kernel_rfl

theorem CurAt.of_block {w w' : World} {b : Nat} {x : Option Addr} {n cap k : Nat} (h : CurAt w b x n cap k) (e : w'.heap[b]? = w.heap[b]?) (hs : w.heap.size ≤ w'.heap.size) : CurAt w' b x n cap k := by
  obtain ⟨s, c0, c1, c2, f1, f2, hb, hne⟩ := h
  exact ⟨s, (World.cell?_of_block (a := ⟨b, 0, none⟩) e).trans c0, (World.cell?_of_block (a := ⟨b, 1, none⟩) e).trans c1, (World.cell?_of_block (a := ⟨b, 2, none⟩) e).trans c2, (World.frozen?_of_block (a := ⟨b, 1, none⟩) e).trans f1, (World.frozen?_of_block (a := ⟨b, 2, none⟩) e).trans f2, Nat.lt_of_lt_of_le hb hs, hne⟩
/-- The cursor is kept by whoever writes no block up to it. -/
theorem CurAt.far {w w' : World} {b : Nat} {x : Option Addr} {n cap k : Nat} {r : Option Nat} (h : CurAt w b x n cap k) (hg : w.grownBy w' r) (hr : ∀ j, r = some j → b < j) : CurAt w' b x n cap k :=
  h.of_block (hg.block b h.inside (fun e => by have := hr b e.symm; omega)) hg.size
/-- A row behind the cursor is kept by whoever writes the cursor alone. -/
theorem own_cur {w w' : World} {b e size n : Nat} {v : Value} {xs : List Value} (h : w.ownsRow (b + 1) e size v n xs) (hg : w.grownBy w' (some b)) : w'.ownsRow (b + 1) e size v n xs := by
  refine h.kept hg ?_
  cases hv : v.ownBlock with
  | none => exact Or.inl rfl
  | some k => exact Or.inr (fun e => by injection e with e; have := (h.lt k hv).1; omega)
def lenV : Value → Nat
  | .slice _ n _ => n
  | _ => 0
theorem own_lenV {w : World} {base e size n : Nat} {v : Value} {xs : List Value} (h : w.ownsRow base e size v n xs) : lenV v = n := by
  rcases h.2 with ⟨rfl, rfl⟩ | ⟨g, cap, cur, rfl, _⟩ <;> rfl
theorem own_form {w : World} {base e size n : Nat} {v : Value} {xs : List Value} (h : w.ownsRow base e size v n xs) : ∃ x c, v = .slice x n c ∧ n ≤ c ∧ (x = none → c = 0) := by
  rcases h.2 with ⟨rfl, rfl⟩ | ⟨g, cap, cur, rfl, _, _, hc, _⟩
  · exact ⟨none, 0, rfl, Nat.le_refl _, fun _ => rfl⟩
  · exact ⟨_, _, rfl, hc, fun h => by cases h⟩

def FrsPost (w : World) (e : Ending) (w' : World) : Prop :=
  ∃ (L : List (Int × Int)) (y : Option Addr) (c : Nat), e = .returned (.slice y L.length c) ∧ L.length ≤ 200 ∧ FrRd w' y L ∧ Below w.heap.size w w'

set_option maxHeartbeats 4000000 in
theorem drawSum_any (x : Option Addr) (n cap : Nat) (w : World) (hx : 0 < n → ∀ c off, x = some ⟨c, off, none⟩ → c < w.heap.size) (hB : ByRd w x n) :
    Calls Tryd.prog 24 #[.slice x n cap] w (FrsPost w) := by
  obtain ⟨i0, hi, hz0, hz1, hz2⟩ := info_parts Tryd.infoFr
  have hx2 := Lib.hid hx
  have hB2 := Lib.hid hB
  clear hx hB
  have bw : Below w.heap.size w (w.alloc (Obj.cells #[Value.slice x n cap, Value.int IntKind.i64 0, Value.int IntKind.u64 0] 49)) := (Below.refl _ _).alloc (Nat.le_refl _) _
  have C0 := Lib.hid (show CurAt (w.alloc (Obj.cells #[Value.slice x n cap, Value.int IntKind.i64 0, Value.int IntKind.u64 0] 49)) w.heap.size x n cap 0 from ⟨0, by go_simp, by go_simp, by go_simp, by go_simp, by go_simp, by simp, fun h0 c off e => by have := hx2.out h0 c off e; omega⟩)
  go_enter Tryd.func24, Tryd.ntmps24
  go_wp2_with fail
  refine (pick_any w.heap.size x n cap 0 6 _ (by omega) (by omega) (by omega) C0.out (hB2.out.below bw)).mono ?_
  rintro e w1 ⟨m, k1, rfl, m0, m1, ka, kb, hC1, hg⟩
  obtain ⟨m, rfl⟩ := Int.eq_ofNat_of_zero_le m0
  have hb1 := below_of_grown bw hg (by omega)
  have hs1 := hC1.inside
  replace hC1 := Lib.hid hC1
  go_wp2_with fail
  go_loopw [4, 5] (fun v c wr => ∃ (i k : Nat) (L : List (Int × Int)), L.length + i ≤ 5 ∧ k ≤ 2 + 4 * L.length ∧ c = .int .i64 i ∧ wr.ownsRow (w.heap.size + 1) 24 2 v L.length (frC L) ∧ Hid (CurAt wr w.heap.size x n cap k) ∧ Below w.heap.size w wr) (fun _ c _ => (intOf c).toNat)
  case atStart => exact ⟨m, k1, [], by simp; omega, by omega, rfl, World.ownsRow_nil _ _ _ _, hC1, hb1⟩
  case round =>
    clear hb1 hC1
    obtain ⟨i, k, L, hLi, hk, rfl, hown, hC, hb⟩ := hrel
    have hbs := hC.out.inside
    by_cases h0 : 0 < i
    · have h0' : (0 : Int) < (i : Int) := by omega
      replace hown := Lib.hid hown
      go_wp2_with fail
      refine (frac_any w.heap.size x n cap k _ (by omega) hC.out (hB2.out.below hb)).mono ?_
      rintro e w2 ⟨u, v', k2, rfl, kc, kd, hC2, hg2⟩
      have ho2 := own_cur hown.out hg2
      have hb2 := below_of_grown hb hg2 (by omega)
      have hs2 := hC2.inside
      have hlow := Lib.hid ho2.lt
      replace hC2 := Lib.hid hC2
      go_wp2_with (at_builtin; refine wpList_append_rd _ rfl (.tmp 15) (.tmp 18) 38 rfl (w.heap.size + 1) 24 i0 (.agg #[.int .i64 0, .int .i64 0]) 2 16 Tryd.underlying38 hi hz0 hz1 hz2 rfl (by decide) _ L.length (frC L) rfl (ho2.alloc _) _ 1 1 rfl (Nat.le_refl _) (by intro h; cases h) (frC [(u, v')]) rfl (Rd.oneF _ _ _ _) (frC_one _) (by unfold maxLen; omega) (by omega) (by simp; omega) ?_; intro v1 w3 hown3 hgrow3 hwhere3)
      have hh := append_below hb2 (fun j hj => by have := (hlow.out j hj).1; omega) hgrow3 hwhere3
      have hC3 := (hC2.out.alloc _).far hgrow3 (fun j hj => by have := (hlow.out j hj).1; omega)
      go_roundw
      case rel => exact ⟨i - 1, k2, L ++ [(u, v')], by simp; omega, by simp; omega, by go_num, own_eq hown3 (by simp) (frC_app _ _).symm, hC3, hh.1⟩
      case measure => simp [intOf]; omega
    · have h0' : (i : Int) ≤ 0 := by omega
      replace hown := Lib.hid hown
      go_wp2_with fail
      refine (pick_any w.heap.size x n cap k 20 _ (by omega) (by omega) (by omega) hC.out (hB2.out.below hb)).mono ?_
      rintro e w2 ⟨m2, k2, rfl, m20, m21, kc, kd, hC2, hg2⟩
      have ho2 := own_cur hown.out hg2
      have hb2 := below_of_grown hb hg2 (by omega)
      have hs2 := hC2.inside
      have hlow := Lib.hid ho2.lt
      replace hC2 := Lib.hid hC2
      by_cases e0 : m2 = 0
      · subst e0
        go_wp2_with fail
        refine (anyFrac_any w.heap.size x n cap k2 _ (by omega) hC2.out (hB2.out.below hb2)).mono ?_
        rintro e w3 ⟨u, v', k3, rfl, ke, kf, hC3, hg3⟩
        have ho3 := own_cur ho2 hg3
        have hb3 := below_of_grown hb2 hg3 (by omega)
        have hs3 := hC3.inside
        clear hC3
        go_wp2_with (at_builtin; refine wpList_append_rd _ rfl (.tmp 24) (.tmp 27) 38 rfl (w.heap.size + 1) 24 i0 (.agg #[.int .i64 0, .int .i64 0]) 2 16 Tryd.underlying38 hi hz0 hz1 hz2 rfl (by decide) _ L.length (frC L) rfl (ho3.alloc _) _ 1 1 rfl (Nat.le_refl _) (by intro h; cases h) (frC [(u, v')]) rfl (Rd.oneF _ _ _ _) (frC_one _) (by unfold maxLen; omega) (by omega) (by simp; omega) ?_; intro v1 w4 hown4 hgrow4 hwhere4)
        have hh := append_below hb3 (fun j hj => by have := (hlow.out j hj).1; omega) hgrow4 hwhere4
        have hown5 := own_eq (n' := (L ++ [(u, v')]).length) hown4 (by simp) (frC_app _ _).symm
        obtain ⟨y, c, rfl, -, -⟩ := own_form hown5
        go_ret
        exact ⟨L ++ [(u, v')], y, c, rfl, by simp; omega, frRd_of (Rd.of_own hown5), hh.1⟩
      by_cases e1 : m2 = 1
      · subst e1
        go_wp2_with fail
        go_loopw [4] (fun v wr => ∃ (k : Nat) (L : List (Int × Int)), L.length ≤ 101 ∧ k ≤ 30 + 2 * L.length ∧ wr.ownsRow (w.heap.size + 1) 24 2 v L.length (frC L) ∧ Hid (CurAt wr w.heap.size x n cap k) ∧ Below w.heap.size w wr) (fun v _ => 101 - lenV v)
        case atStart => exact ⟨k2, L, by omega, by omega, ho2, hC2, hb2⟩
        case round =>
          clear ho2 hown hC hC2 hb hb2 hlow
          obtain ⟨k, L, hL, hk, hown, hC, hb⟩ := hrel
          have hbs := hC.out.inside
          have hlen := own_lenV hown
          obtain ⟨y, c, rfl, -, -⟩ := own_form hown
          replace hown := Lib.hid hown
          clear hlen
          go_wp2_with fail
          refine (pick_any w.heap.size x n cap k 2 _ (by omega) (by omega) (by omega) hC.out (hB2.out.below hb)).mono ?_
          rintro e w2 ⟨m3, k3, rfl, m30, m31, kg, kh, hC3, hg3⟩
          have ho3 := own_cur hown.out hg3
          have hb3 := below_of_grown hb hg3 (by omega)
          have hs3 := hC3.inside
          have hlow := Lib.hid ho3.lt
          replace hC3 := Lib.hid hC3
          by_cases hl : (L.length : Int) < 100 + m3
          · go_wp2_with fail
            refine (fInt_any 1 _).mono ?_
            rintro e w4 ⟨rfl, hb4⟩
            have ho4 := own_below ho3 hb4
            have hb4' : Below w.heap.size w w4 := (by repeat (first | exact Below.refl _ _ | assumption | refine Below.drew ?_ | refine below_drewN ?_ _ | refine Below.alloc' ?_ _ | (refine Below.setCell ?_ (by first | omega | (simp; done) | (simp; omega) | exact Below.size (by assumption) | exact Nat.le_trans (Below.size (by assumption)) (by simp)) _) | (refine Below.via' ?_ (by assumption)) | (refine Below.alloc ?_ (by first | omega | (simp; done) | (simp; omega) | exact Below.size (by assumption) | exact Nat.le_trans (Below.size (by assumption)) (by simp)) _) | (refine Below.via ?_ (by assumption) (by first | omega | (simp; done) | (simp; omega) | exact Below.size (by assumption) | exact Nat.le_trans (Below.size (by assumption)) (by simp)))))
            have hC4 := Lib.hid (hC3.out.below hb4)
            have hs4 := hC4.out.inside
            go_wp2_with (at_builtin; refine wpList_append_rd _ rfl (.tmp 37) (.tmp 39) 38 rfl (w.heap.size + 1) 24 i0 (.agg #[.int .i64 0, .int .i64 0]) 2 16 Tryd.underlying38 hi hz0 hz1 hz2 rfl (by decide) _ L.length (frC L) rfl (ho4.alloc _) _ 1 1 rfl (Nat.le_refl _) (by intro h; cases h) (frC [(1, 1)]) rfl (Rd.oneF _ _ _ _) (frC_one _) (by unfold maxLen; omega) (by omega) (by simp; omega) ?_; intro v1 w5 hown5 hgrow5 hwhere5)
            have hh := append_below hb4' (fun j hj => by have := (hlow.out j hj).1; omega) hgrow5 hwhere5
            have hC5 := (hC4.out.alloc _).far hgrow5 (fun j hj => by have := (hlow.out j hj).1; omega)
            have hown6 := own_eq (n' := (L ++ [((1 : Int), (1 : Int))]).length) hown5 (by simp) (frC_app _ _).symm
            have hlv := own_lenV hown6
            go_roundw
            case rel => exact ⟨k3, L ++ [(1, 1)], by simp; omega, by simp; omega, hown6, hC5, hh.1⟩
            case measure =>
              rw [hlv]
              simp [lenV]
              omega
          · go_wp2_with fail
            go_ret
            exact ⟨L, y, c, rfl, by omega, frRd_of (Rd.of_own ho3), hb3⟩
      · go_wp2_with fail
        obtain ⟨y, c, rfl, -, -⟩ := own_form ho2
        go_ret
        exact ⟨L, y, c, rfl, by omega, frRd_of (Rd.of_own ho2), hb2⟩
end Go.Proofs.YtbglogaljjfnnabDoor
