import Derived.Test.YtjbhmofaackjpaaPjC
import Derived.Deep.DeepCutAuto
import Derived.Deep.CutRange
import Derived.Test.YtjbhmofaackjpaaEdI
namespace Go.Proofs.Ytjbhmofaackjpaa
open Go.RowKit
set_option maxRecDepth 100000

/-- Numbers that are drawn. -/
def SmI (L : List Int) : Prop := ∀ n ∈ L, -1 ≤ n ∧ n ≤ 9
theorem SmI.nil : SmI [] := fun n hn => by cases hn
theorem SmI.snoc {L : List Int} {n : Int} (h : SmI L) (h1 : -1 ≤ n) (h2 : n ≤ 9) : SmI (L ++ [n]) := by
  intro m hm
  rcases List.mem_append.1 hm with hm | hm
  · exact h m hm
  · simp at hm
    subst hm
    exact ⟨h1, h2⟩
theorem SmI.set {L : List Int} {n : Int} (h : SmI L) (k : Nat) (h1 : -1 ≤ n) (h2 : n ≤ 9) : SmI (L.set k n) := by
  intro m hm
  rcases List.mem_or_eq_of_mem_set hm with hm | rfl
  · exact h m hm
  · exact ⟨h1, h2⟩
theorem Rd.oneI_at (w : World) (t : TypeId) (n : Int) (g : Nat) (h : w.heap.size = g) : Rd (w.alloc (.cells #[.int .i64 n] t)) (some ⟨g, 0, none⟩) (iC [n]) := by
  subst h
  refine Or.inr ⟨w.heap.size, 0, rfl, by simp, fun j u hj => ?_⟩
  have : j = 0 := by
    have := (List.getElem?_eq_some_iff.1 hj).1
    simp [iC] at this
    exact this
  subst this
  simp [iC] at hj
  subst hj
  rw [World.cell?_alloc_at _ _ _ _ rfl]
  rfl
theorem iC_app (A B : List Int) : iC (A ++ B) = iC A ++ iC B := by unfold iC; rw [List.map_append]
def ValPost (b : Nat) (x : Option Addr) (n cap k more hi : Nat) (w : World) (e : Ending) (w' : World) : Prop :=
  ∃ (L : List Int) (v : Value) (k' : Nat), e = .returned v ∧ SmI L ∧ L.length ≤ hi ∧ k ≤ k' ∧ k' ≤ k + more ∧ w'.ownsRow w.heap.size 3 1 v L.length (iC L) ∧ CurAt w' b x n cap k' ∧ w.grownBy w' (some b)
set_option maxHeartbeats 4000000 in
theorem values_any (b : Nat) (x : Option Addr) (n cap k : Nat) (y : Option Addr) (cy : Nat) (S : List (ByteArray × Int)) (w : World) (hk : k + 200 ≤ 1000000000000) (hC : CurAt w b x n cap k) (hB : ByRd w x n) (hD : DrS S) (hS : Rd w y (vC S)) (hyb : ∀ c off, y = some ⟨c, off, none⟩ → some c ≠ some b) :
    Calls Try.prog 51 #[.pointer (some ⟨b, 0, none⟩), .slice y S.length cy] w (ValPost b x n cap k 20 7 w) := by
  obtain ⟨i0, hi, hz0, hz1, hz2⟩ := info_parts Try.infoInt
  have hbs := hC.inside
  have hap := Lib.hid hC.apart
  have hC2 := Lib.hid hC
  have hB2 := Lib.hid hB
  have hS2 := Lib.hid hS
  have hy2 := Lib.hid hyb
  have hl7 := hD.1
  replace hD := Lib.hid hD
  clear hC hB hS hyb
  go_enter Try.func51, Try.ntmps51
  go_wp2_with fail
  go_loopw [5, 10] (fun v c wr => ∃ (i kk : Nat) (L : List Int), i ≤ S.length ∧ L.length = i ∧ k ≤ kk ∧ kk ≤ k + 2 * i ∧ c = .int .i64 i ∧ wr.ownsRow w.heap.size 3 1 v L.length (iC L) ∧ Hid (SmI L) ∧ Hid (CurAt wr b x n cap kk) ∧ Hid (w.grownBy wr (some b))) (fun _ c _ => S.length - (intOf c).toNat)
  case atStart => exact ⟨0, k, [], by omega, rfl, Nat.le_refl _, by omega, rfl, World.ownsRow_nil _ _ _ _, SmI.nil, hC2.out, grown_refl _ _⟩
  case round =>
    obtain ⟨i, kk, L, hi3, hLi, hk1, hk2, rfl, hown, hI, hC, hg⟩ := hrel
    have hbr := hC.out.inside
    have hws := hg.out.size
    have hLn : L.length ≤ 7 := by omega
    replace hown := Lib.hid hown
    replace hLi := Lib.hid hLi
    by_cases hlt : i < S.length
    · obtain ⟨bl, off, nm, lv, hy, hbl, hSi, hc0, hc1⟩ := (hS2.out.keep hg.out hy2.out).var hlt
      subst hy
      obtain ⟨l1, l2⟩ := hD.out.at hSi
      clear hSi
      have hlt' : (i : Int) < (S.length : Int) := by omega
      go_wp2_with fail
      refine (pick_any b x n cap kk lv _ (by omega) (by omega) (by omega) (hC.out.alloc _) ((hB2.out.grown hg.out hap.out).alloc _)).mono ?_
      rintro e w2 ⟨m, k2, rfl, m0, m1, ka, kb, hC3, hg3⟩
      have hg3' := grown_trans (grown_alloc (grown_refl wr (some b)) _) hg3
      have G2 := Lib.hid (grown_trans hg.out hg3')
      have O2 := Lib.hid (own_cur2 hown.out (by omega) hg3')
      have hs2 := G2.out.size
      replace hC3 := Lib.hid hC3
      clear hown hC hg hg3 hg3' hc0 hc1
      go_wp2_with (at_builtin; go_loud (refine wpList_append_rd _ rfl (.tmp 14) (.tmp 19) 28 rfl w.heap.size 3 i0 (.int .i64 0) 1 8 Try.underlying28 hi hz0 hz1 hz2 rfl (by decide) _ L.length (iC L) rfl (O2.out.alloc _) _ 1 1 rfl (Nat.le_refl _) (by intro h; cases h) (iC [m]) rfl (Rd.oneI_at _ _ _ _ (by simp)) (iC_one _) (by unfold maxLen; omega) (by omega) (by simp; omega) ?_); intro v5 w5 hown5 hgrow5 hwhere5)
      have hlow := Lib.hid O2.out.lt
      have G5 := Lib.hid (grown_far (grown_alloc G2.out _) hgrow5 (fun j hj => (hlow.out j hj).1))
      have C5 := Lib.hid ((hC3.out.alloc _).far hgrow5 (fun j hj => by have := (hlow.out j hj).1; omega))
      have hown6 := own_eq (n' := (L ++ [m]).length) hown5 (by simp) (iC_app _ _).symm
      clear hgrow5 hwhere5 hown5
      have hLi' := hLi.out
      go_roundw
      case rel => exact ⟨i + 1, k2, L ++ [m], by omega, by simp; omega, by omega, by omega, by go_num, hown6, hI.out.snoc (by omega) (by omega), C5.out, G5.out⟩
      case measure => simp [intOf]; omega
    · go_wp2_with fail
      go_ret
      exact ⟨L, _, kk, rfl, hI.out, by omega, by omega, by omega, hown.out, hC.out, hg.out⟩

set_option maxHeartbeats 8000000 in
theorem anyValues_any (b : Nat) (x : Option Addr) (n cap k : Nat) (y : Option Addr) (cy : Nat) (S : List (ByteArray × Int)) (w : World) (hk : k + 300 ≤ 1000000000000) (hC : CurAt w b x n cap k) (hB : ByRd w x n) (hD : DrS S) (hS : Rd w y (vC S)) (hyb : ∀ c off, y = some ⟨c, off, none⟩ → some c ≠ some b) :
    Calls Try.prog 50 #[.pointer (some ⟨b, 0, none⟩), .slice y S.length cy] w (ValPost b x n cap k 100 8 w) := by
  obtain ⟨i0, hi, hz0, hz1, hz2⟩ := info_parts Try.infoInt
  have hbs := hC.inside
  have hap := Lib.hid hC.apart
  have hC2 := Lib.hid hC
  have hB2 := Lib.hid hB
  clear hC hB
  go_enter Try.func50, Try.ntmps50
  go_wp2_with fail
  refine (values_any b x n cap k y cy S _ (by omega) hC2.out hB2.out hD hS hyb).mono ?_
  rintro e w1 ⟨L, v, k1, rfl, hI, hl7, ka, kb, hown, hC1, hg1⟩
  obtain ⟨z, cz, rfl, hcz, hzn⟩ := own_form hown
  have hs1 := hg1.size
  replace hown := Lib.hid hown
  replace hC1 := Lib.hid hC1
  replace hg1 := Lib.hid hg1
  replace hI := Lib.hid hI
  clear hD hS hyb
  by_cases h0 : 0 < L.length
  · obtain ⟨g, cg, hv⟩ := own_some2 hown.out h0
    injection hv with hv1 hv2 hv3
    subst hv1 hv3
    have hgl := own_lt hown.out
    have h0' : (0 : Int) < (L.length : Int) := by omega
    go_wp2_with fail
    refine (one_any b x n cap k1 16 _ (by omega) (by omega) (by omega) hC1.out (hB2.out.grown hg1.out hap.out)).mono ?_
    rintro e w2 ⟨t, k2, rfl, kc, kd, hC3, hg2⟩
    have G2 := Lib.hid (grown_trans hg1.out hg2)
    have O2 := Lib.hid (own_cur2 hown.out (by omega) hg2)
    have hs2 := hg2.size
    replace hC3 := Lib.hid hC3
    clear hown hC1 hg1 hg2
    cases t
    · go_wp2_with fail
      refine (one_any b x n cap k2 24 _ (by omega) (by omega) (by omega) hC3.out (hB2.out.grown G2.out hap.out)).mono ?_
      rintro e w6 ⟨t6, k6, rfl, kg, kh, hC6, hg6⟩
      have G6 := Lib.hid (grown_trans G2.out hg6)
      have O6 := Lib.hid (own_cur2 O2.out (by omega) hg6)
      have hs6 := G6.out.size
      replace hC6 := Lib.hid hC6
      clear hg6
      cases t6
      · go_wp2_with fail
        go_ret
        exact ⟨L, _, k6, rfl, hI.out, by omega, by omega, by omega, O6.out, hC6.out, G6.out⟩
      · go_wp2_with (at_builtin; go_loud (refine wpList_append_rd _ rfl (.tmp 29) (.tmp 30) 28 rfl w.heap.size 3 i0 (.int .i64 0) 1 8 Try.underlying28 hi hz0 hz1 hz2 rfl (by decide) _ L.length (iC L) rfl (O6.out.alloc _) _ 1 1 rfl (Nat.le_refl _) (by intro h; cases h) (iC [0]) rfl (Rd.oneI_at _ _ _ _ (by simp)) (iC_one _) (by unfold maxLen; omega) (by omega) (by simp; omega) ?_); intro v5 w5 hown5 hgrow5 hwhere5)
        have hlow := Lib.hid O6.out.lt
        have G5 := Lib.hid (grown_far (grown_alloc G6.out _) hgrow5 (fun j hj => (hlow.out j hj).1))
        have C5 := Lib.hid ((hC6.out.alloc _).far hgrow5 (fun j hj => by have := (hlow.out j hj).1; omega))
        have hown6 := own_eq (n' := (L ++ [(0 : Int)]).length) hown5 (by simp) (iC_app _ _).symm
        obtain ⟨z5, c5, rfl, -, -⟩ := own_form hown6
        clear hgrow5 hwhere5 hown5
        go_ret
        exact ⟨L ++ [0], _, k6, rfl, hI.out.snoc (by omega) (by omega), by simp; omega, by omega, by omega, hown6, C5.out, G5.out⟩
    · go_wp2_with fail
      refine (pick_any b x n cap k2 L.length _ (by omega) (by omega) (by omega) hC3.out (hB2.out.grown G2.out hap.out)).mono ?_
      rintro e w3 ⟨m, k3, rfl, m0, m1, ke, kf, hC4, hg3⟩
      have G3 := Lib.hid (grown_trans G2.out hg3)
      have O3 := Lib.hid (own_cur2 O2.out (by omega) hg3)
      have hs3 := hg3.size
      obtain ⟨i, rfl⟩ := Int.eq_ofNat_of_zero_le m0
      replace hC4 := Lib.hid hC4
      clear hC3 G2 O2 hg3
      go_wp2_with fail
      refine (among_any b x n cap k3 w3.heap.size _ [-1, 2, 8] _ (by omega) (by simp) (by simp) (by have := hC4.out.inside; omega) (IRd.lit w3 [-1, 2, 8] 3) (hC4.out.alloc _) ((hB2.out.grown G3.out hap.out).alloc _)).mono ?_
      rintro e w4 ⟨q, k4, rfl, hmem, kg, kh, hC5, hg4⟩
      have hq : -1 ≤ q ∧ q ≤ 9 := by simp at hmem; omega
      have hg4' := grown_trans (grown_alloc (grown_refl w3 (some b)) _) hg4
      have G4 := Lib.hid (grown_trans G3.out hg4')
      have O4 := Lib.hid (own_cur2 O3.out (by omega) hg4')
      obtain ⟨u, hu, c0⟩ := own_cell O4.out (j := i) (by omega)
      have c1 := O4.out.frozenAt i
      replace hC5 := Lib.hid hC5
      replace hu := Lib.hid hu
      clear hmem hg4 hg4' hC4 G3 O3
      go_wp2_with fail
      go_ret
      have hr := (O4.out.stored i (.int .i64 q)).1
      have e1 : (iC L).set i (.int .i64 q) = iC (L.set i q) := by unfold iC; rw [List.map_set]
      rw [e1] at hr
      refine ⟨L.set i q, _, k4, ?_, hI.out.set i hq.1 hq.2, by simp; omega, by omega, by omega, own_eq hr (by simp) rfl, hC5.out.set (by omega) i _, grown_setAt G4.out (by omega) i _⟩
      simp
  · go_wp2_with fail
    all_goals
      refine (one_any b x n cap k1 24 _ (by omega) (by omega) (by omega) hC1.out (hB2.out.grown hg1.out hap.out)).mono ?_
      rintro e w6 ⟨t6, k6, rfl, kg, kh, hC6, hg6⟩
      have G6 := Lib.hid (grown_trans hg1.out hg6)
      have O6 := Lib.hid (own_cur2 hown.out (by omega) hg6)
      have hs6 := G6.out.size
      replace hC6 := Lib.hid hC6
      clear hg6
      cases t6
      · go_wp2_with fail
        go_ret
        exact ⟨L, _, k6, rfl, hI.out, by omega, by omega, by omega, O6.out, hC6.out, G6.out⟩
      · go_wp2_with (at_builtin; go_loud (refine wpList_append_rd _ rfl (.tmp 29) (.tmp 30) 28 rfl w.heap.size 3 i0 (.int .i64 0) 1 8 Try.underlying28 hi hz0 hz1 hz2 rfl (by decide) _ L.length (iC L) rfl (O6.out.alloc _) _ 1 1 rfl (Nat.le_refl _) (by intro h; cases h) (iC [0]) rfl (Rd.oneI_at _ _ _ _ (by simp)) (iC_one _) (by unfold maxLen; omega) (by omega) (by simp; omega) ?_); intro v5 w5 hown5 hgrow5 hwhere5)
        have hlow := Lib.hid O6.out.lt
        have G5 := Lib.hid (grown_far (grown_alloc G6.out _) hgrow5 (fun j hj => (hlow.out j hj).1))
        have C5 := Lib.hid ((hC6.out.alloc _).far hgrow5 (fun j hj => by have := (hlow.out j hj).1; omega))
        have hown6 := own_eq (n' := (L ++ [(0 : Int)]).length) hown5 (by simp) (iC_app _ _).symm
        obtain ⟨z5, c5, rfl, -, -⟩ := own_form hown6
        clear hgrow5 hwhere5 hown5
        go_ret
        exact ⟨L ++ [0], _, k6, rfl, hI.out.snoc (by omega) (by omega), by simp; omega, by omega, by omega, hown6, C5.out, G5.out⟩
end Go.Proofs.Ytjbhmofaackjpaa

namespace Go.Proofs.Ytjbhmofaackjpaa
open Go.RowKit
set_option maxRecDepth 100000

def NnI (L : List Int) : Prop := ∀ n ∈ L, 0 ≤ n ∧ n ≤ 9
theorem NnI.nil : NnI [] := fun n hn => by cases hn
theorem NnI.snoc {L : List Int} {n : Int} (h : NnI L) (h1 : 0 ≤ n) (h2 : n ≤ 9) : NnI (L ++ [n]) := by
  intro m hm
  rcases List.mem_append.1 hm with hm | hm
  · exact h m hm
  · simp at hm
    subst hm
    exact ⟨h1, h2⟩
theorem NnI.set {L : List Int} {n : Int} (h : NnI L) (k : Nat) (h1 : 0 ≤ n) (h2 : n ≤ 9) : NnI (L.set k n) := by
  intro m hm
  rcases List.mem_or_eq_of_mem_set hm with hm | rfl
  · exact h m hm
  · exact ⟨h1, h2⟩
theorem Wb.far {W : World} {g : Nat} {t : TypeId} {cs : Array Value} (h : Wb W g t cs) (p : Addr) (hne : g ≠ p.block) (u : Value) : Wb (W.setCell p u) g t cs := (Below.heap_setCell _ _ _ _ hne).trans h
theorem Rd.varA {w : World} {bl off : Nat} {S : List (ByteArray × Int)} {j : Nat} {nm : ByteArray} {lv : Int} (h : Rd w (some ⟨bl, off, none⟩) (vC S)) (hj : S[j]? = some (nm, lv)) :
    w.cell? ⟨bl, off + j * 2, none⟩ = some (.string nm) ∧ w.cell? ⟨bl, off + j * 2 + 1, none⟩ = some (.int .i64 lv) := by
  have h0 := vC_at0 hj
  have h1 := vC_at1 hj
  rcases h with h | ⟨b, o, e, _, hc⟩
  · rw [h] at h0
    cases h0
  · injection e with e
    injection e with e1 e2
    subst e1 e2
    exact ⟨hc _ _ h0, by have := hc _ _ h1; rw [← Nat.add_assoc] at this; exact this⟩
theorem grown_setP (W : World) (p : Addr) (v : Value) : W.grownBy (W.setCell p v) (some p.block) :=
  ⟨rfl, rfl, rfl, by simp [World.setCell], fun k _ hk => Below.heap_setCell _ _ _ k (fun e => hk (by rw [e]))⟩
theorem own_farC {w : World} {base e size n : Nat} {v : Value} {xs : List Value} (h : w.ownsRow base e size v n xs) (p : Addr) (hp : p.block < base) (u : Value) : (w.setCell p u).ownsRow base e size v n xs := by
  refine h.kept (grown_setP w p u) ?_
  cases hv : v.ownBlock with
  | none => exact Or.inl rfl
  | some k => exact Or.inr (fun e => by injection e with e; have := (h.lt k hv).1; omega)
def GrpPost (b : Nat) (x : Option Addr) (n cap k more hi : Nat) (w : World) (e : Ending) (w' : World) : Prop :=
  ∃ (v : Int) (L : List Int) (u : Value) (k' : Nat), e = .returned (.agg #[.int .i64 v, u]) ∧ -1 ≤ v ∧ v ≤ 9 ∧ NnI L ∧ L.length ≤ hi ∧ k ≤ k' ∧ k' ≤ k + more ∧ w'.ownsRow w.heap.size 3 1 u L.length (iC L) ∧ CurAt w' b x n cap k' ∧ w.grownBy w' (some b)
theorem gr_fin {b : Nat} {x : Option Addr} {n cap k : Nat} {w W : World} (v : Int) (L : List Int) (u : Value) (kk : Nat) (h1 : -1 ≤ v) (h2 : v ≤ 9) (h3 : NnI L) (h4 : L.length ≤ 10) (h5 : k ≤ kk) (h6 : kk ≤ k + 100) (hO : W.ownsRow (w.heap.size + 2) 3 1 u L.length (iC L)) (hC : CurAt W b x n cap kk) (hG : w.grownBy W (some b)) (hb : b < w.heap.size) {a1 a2 : Value} :
    GrpPost b x n cap k 100 10 w (.returned (.agg #[.int .i64 v, u])) ((W.setCell ⟨w.heap.size, 0, none⟩ a1).setCell ⟨w.heap.size, 1, none⟩ a2) :=
  ⟨v, L, u, kk, rfl, h1, h2, h3, h4, h5, h6, own_more (own_farC (own_farC hO ⟨w.heap.size, 0, none⟩ (by show w.heap.size < _; omega) _) ⟨w.heap.size, 1, none⟩ (by show w.heap.size < _; omega) _) (by omega), (hC.set (by omega) 0 _).set (by omega) 1 _, grown_set (grown_set hG (Nat.le_refl _) 0 _) (Nat.le_refl _) 1 _⟩
end Go.Proofs.Ytjbhmofaackjpaa

namespace Go.Proofs.Ytjbhmofaackjpaa
open Go.RowKit
set_option maxRecDepth 100000

/-- The members of a drawn edit so far. -/
def EdUp (S : List (ByteArray × Int)) (L : List Int) (i : Nat) : Prop := L.length = i ∧ ∀ j, j < i → ∃ nm lv a, S[j]? = some (nm, lv) ∧ L[j]? = some a ∧ 1 ≤ a ∧ a ≤ flZ lv
theorem EdUp.nil (S : List (ByteArray × Int)) : EdUp S [] 0 := ⟨rfl, fun j hj => absurd hj (by omega)⟩
theorem EdUp.snoc {S : List (ByteArray × Int)} {L : List Int} {i : Nat} {nm : ByteArray} {lv a : Int} (h : EdUp S L i) (hS : S[i]? = some (nm, lv)) (h1 : 1 ≤ a) (h2 : a ≤ flZ lv) : EdUp S (L ++ [a]) (i + 1) := by
  obtain ⟨hl, hm⟩ := h
  refine ⟨by simp [hl], fun j hj => ?_⟩
  rcases Nat.lt_or_ge j i with hj2 | hj2
  · obtain ⟨nm2, lv2, a2, e1, e2, e3⟩ := hm j hj2
    exact ⟨nm2, lv2, a2, e1, by rw [List.getElem?_append_left (by omega)]; exact e2, e3⟩
  · obtain rfl : j = i := by omega
    refine ⟨nm, lv, a, hS, ?_, h1, h2⟩
    rw [List.getElem?_append_right (by omega), hl]
    simp
theorem EdUp.all {S : List (ByteArray × Int)} {L : List Int} (h : EdUp S L S.length) : edB S L = true := ed_all h.1 h.2
theorem wb_grownD {w w' : World} {g : Nat} {t : TypeId} {cs : Array Value} {r : Option Nat} (h : Wb w g t cs) (hg : w.grownBy w' r) (hne : r ≠ some g) : Wb w' g t cs := (hg.block g h.inside (fun e => hne e.symm)).trans h
/-- What the draw of an edit hands back. -/
def EdtPost (b : Nat) (x : Option Addr) (n cap k more : Nat) (S : List (ByteArray × Int)) (w : World) (e : Ending) (w' : World) : Prop :=
  ∃ (E : List Int) (u : Option Addr) (c k' : Nat), e = .returned (.agg #[.slice u E.length c]) ∧ edB S E = true ∧ k ≤ k' ∧ k' ≤ k + more ∧ w'.ownsRow w.heap.size 3 1 (.slice u E.length c) E.length (iC E) ∧ CurAt w' b x n cap k' ∧ w.grownBy w' (some b)
set_option maxHeartbeats 2000000 in
theorem edit_any (b : Nat) (x : Option Addr) (n cap k : Nat) (y : Option Addr) (cy : Nat) (S : List (ByteArray × Int)) (w : World) (hk : k + 200 ≤ 1000000000000) (hs : schB S = true) (hC : CurAt w b x n cap k) (hB : ByRd w x n) (hS : Rd w y (vC S)) (hyb : ∀ c off, y = some ⟨c, off, none⟩ → some c ≠ some b) :
    Calls Try.prog 63 #[.pointer (some ⟨b, 0, none⟩), .slice y S.length cy] w (EdtPost b x n cap k 40 S w) := by
  obtain ⟨i0, hi, hz0, hz1, hz2⟩ := info_parts Try.infoInt
  have hbs := hC.inside
  have hap := Lib.hid hC.apart
  have hC2 := Lib.hid hC
  have hB2 := Lib.hid hB
  have hS2 := Lib.hid hS
  have hy2 := Lib.hid hyb
  have hl6 := schB_len hs
  replace hs := Lib.hid hs
  clear hC hB hS hyb
  go_enter Try.func63, Try.ntmps63
  have q1 : Wb ((w.alloc (.cells #[.slice none 0 0] 61)).alloc (.cells #[.slice none 0 0] 61)) w.heap.size 61 #[.slice none 0 0] := (Wb.new w _ _).kept ((Below.refl _ _).alloc (Nat.le_refl _) _)
  have q2 : Wb ((w.alloc (.cells #[.slice none 0 0] 61)).alloc (.cells #[.slice none 0 0] 61)) (w.heap.size + 1) 61 #[.slice none 0 0] := by
    have := Wb.new (w.alloc (.cells #[.slice none 0 0] 61)) 61 #[.slice none 0 0]
    rwa [World.size_alloc] at this
  have q1h := Lib.hid q1
  have q2h := Lib.hid q2
  have gA := Lib.hid (grown_alloc (grown_alloc (grown_refl w (some b)) (.cells #[.slice none 0 0] 61)) (.cells #[.slice none 0 0] 61))
  have cA := Lib.hid ((hC2.out.alloc (.cells #[.slice none 0 0] 61)).alloc (.cells #[.slice none 0 0] 61))
  clear q1 q2
  go_wp2_with fail
  go_loopw [12] (fun c wr => ∃ (i kk : Nat) (L : List Int) (u : Value), i ≤ S.length ∧ c = .int .i64 i ∧ k ≤ kk ∧ kk ≤ k + 4 * i ∧ Hid (EdUp S L i) ∧ wr.ownsRow (w.heap.size + 2) 3 1 u L.length (iC L) ∧ Wb wr w.heap.size 61 #[.slice none 0 0] ∧ Wb wr (w.heap.size + 1) 61 #[u] ∧ Hid (CurAt wr b x n cap kk) ∧ Hid (w.grownBy wr (some b)) ∧ w.heap.size + 2 ≤ wr.heap.size) (fun c _ => S.length - (intOf c).toNat)
  case atStart => exact ⟨0, k, [], _, by omega, rfl, Nat.le_refl _, by omega, EdUp.nil S, World.ownsRow_nil _ _ _ _, q1h.out, q2h.out, cA.out, gA.out, by simp⟩
  case round =>
    clear q1h q2h gA cA
    obtain ⟨i, kk, L, u, hi3, rfl, hk1, hk2, hU, hown, hR, hV, hC, hg, hsz⟩ := hrel
    obtain ⟨vx, vc, rfl, -, -⟩ := (OwR.of hown).form
    have hLi : L.length = i := hU.out.1
    replace hown := Lib.hid hown
    replace hR := Lib.hid hR
    replace hV := Lib.hid hV
    replace hLi := Lib.hid hLi
    have hLn : L.length ≤ 6 := by have := hLi.out; omega
    by_cases hlt : i < S.length
    · obtain ⟨bl, off, nm, lv, hy, hbl, hSi, -, -⟩ := (hS2.out.keep hg.out hy2.out).var hlt
      have hlv := schB_lv hs.out hSi
      have hf := flZ_bd hlv
      have hSih := Lib.hid hSi
      clear hSi hy
      have hlt' : (i : Int) < (S.length : Int) := by omega
      go_wp2_with fail
      refine (eFull_any _ _ S i nm lv _ hlv hSih.out (hS2.out.keep hg.out hy2.out)).mono ?_
      rintro e w2 ⟨rfl, rfl⟩
      go_wp2_with fail
      refine (one_any b x n cap kk 3 _ (by omega) (by omega) (by omega) hC.out (hB2.out.grown hg.out hap.out)).mono ?_
      rintro e w3 ⟨t, k3, rfl, ka, kb, hC3, hg3⟩
      have G3 := Lib.hid (grown_trans hg.out hg3)
      have O3 := Lib.hid (own_cur2 hown.out (by omega) hg3)
      have V3 := Lib.hid (wb_grownD hV.out hg3 (by intro e; injection e with e; omega))
      have R3 := Lib.hid (wb_grownD hR.out hg3 (by intro e; injection e with e; omega))
      have hs3 := hg3.size
      replace hC3 := Lib.hid hC3
      clear hg3 hC hg hown hV hR
      cases t
      · go_wp2_with fail
        refine (pick_any b x n cap k3 (flZ lv) _ (by omega) (by omega) (by omega) hC3.out (hB2.out.grown G3.out hap.out)).mono ?_
        rintro e w4 ⟨m, k4, rfl, m0, m1, kc, kd, hC4, hg4⟩
        have G4 := Lib.hid (grown_trans G3.out hg4)
        have O4 := Lib.hid (own_cur2 O3.out (by omega) hg4)
        have V4 := Lib.hid (wb_grownD V3.out hg4 (by intro e; injection e with e; omega))
        have R4 := Lib.hid (wb_grownD R3.out hg4 (by intro e; injection e with e; omega))
        have hs4 := hg4.size
        replace hC4 := Lib.hid hC4
        clear hg4 hC3 G3 O3 V3 R3
        have v0 := V4.out.read 0
        have vf := V4.out.free 0
        have hst := Lib.hid (hU.out.snoc hSih.out (a := (1 + m)) (by omega) (by omega))
        go_wp2_with (at_builtin; go_loud (refine wpList_append_rd _ rfl (.tmp 27) (.tmp 29) 28 rfl (w.heap.size + 2) 3 i0 (.int .i64 0) 1 8 Try.underlying28 hi hz0 hz1 hz2 rfl (by decide) _ L.length (iC L) rfl (O4.out.alloc _) _ 1 1 rfl (Nat.le_refl _) (by intro h; cases h) (iC [(1 + m)]) rfl (Rd.oneI_at _ _ _ _ (by simp)) (iC_one _) (by unfold maxLen; omega) (by omega) (by simp; omega) ?_); intro v5 w5 hown5 hgrow5 hwhere5; (obtain ⟨z5, c5, rfl, -, -⟩ := own_form hown5); (have hlow := Lib.hid O4.out.lt); (have G5 := Lib.hid (grown_far (grown_alloc G4.out _) hgrow5 (fun j hj => by have := (hlow.out j hj).1; omega))); (have C5 := Lib.hid ((hC4.out.alloc _).far hgrow5 (fun j hj => by have := (hlow.out j hj).1; omega))); (have V5 := Lib.hid (wb_grownD (V4.out.kept ((Below.refl _ _).alloc (Nat.le_refl _) _)) hgrow5 (fun e => by have := (hlow.out _ e).1; omega))); (have R5 := Lib.hid (wb_grownD (R4.out.kept ((Below.refl _ _).alloc (Nat.le_refl _) _)) hgrow5 (fun e => by have := (hlow.out _ e).1; omega))); (have hs5 := G5.out.size); (have hown6h := Lib.hid (own_eq (n' := (L ++ [(1 + m)]).length) hown5 (by simp) (iC_app _ _).symm)); (have w0 := V5.out.read 0); (have wf := V5.out.free 0); (have hin5 := V5.out.inside); clear hgrow5 hwhere5 hown5 v0 vf)
        go_wp2
        go_roundw
        case rel => exact ⟨i + 1, k4, L ++ [(1 + m)], _, by omega, by go_num, by omega, by omega, hst.out, ownsRow_setCell_below hown6h.out (by simp) _, R5.out.far _ (by simp) _, V5.out.put 0 _, CurAt.far C5.out (grown_setP _ _ _) (by intro j hj; injection hj with hj; simp at hj; omega), (grown_far G5.out (grown_setP _ _ _) (by intro j hj; injection hj with hj; simp at hj; omega)), by simp; omega⟩
        case measure => simp [intOf]; omega
      · skip
        have v0 := V3.out.read 0
        have vf := V3.out.free 0
        have hst := Lib.hid (hU.out.snoc hSih.out (a := flZ lv) (by omega) (by omega))
        go_wp2_with (at_builtin; go_loud (refine wpList_append_rd _ rfl (.tmp 27) (.tmp 29) 28 rfl (w.heap.size + 2) 3 i0 (.int .i64 0) 1 8 Try.underlying28 hi hz0 hz1 hz2 rfl (by decide) _ L.length (iC L) rfl (O3.out.alloc _) _ 1 1 rfl (Nat.le_refl _) (by intro h; cases h) (iC [flZ lv]) rfl (Rd.oneI_at _ _ _ _ (by simp)) (iC_one _) (by unfold maxLen; omega) (by omega) (by simp; omega) ?_); intro v5 w5 hown5 hgrow5 hwhere5; (obtain ⟨z5, c5, rfl, -, -⟩ := own_form hown5); (have hlow := Lib.hid O3.out.lt); (have G5 := Lib.hid (grown_far (grown_alloc G3.out _) hgrow5 (fun j hj => by have := (hlow.out j hj).1; omega))); (have C5 := Lib.hid ((hC3.out.alloc _).far hgrow5 (fun j hj => by have := (hlow.out j hj).1; omega))); (have V5 := Lib.hid (wb_grownD (V3.out.kept ((Below.refl _ _).alloc (Nat.le_refl _) _)) hgrow5 (fun e => by have := (hlow.out _ e).1; omega))); (have R5 := Lib.hid (wb_grownD (R3.out.kept ((Below.refl _ _).alloc (Nat.le_refl _) _)) hgrow5 (fun e => by have := (hlow.out _ e).1; omega))); (have hs5 := G5.out.size); (have hown6h := Lib.hid (own_eq (n' := (L ++ [flZ lv]).length) hown5 (by simp) (iC_app _ _).symm)); (have w0 := V5.out.read 0); (have wf := V5.out.free 0); (have hin5 := V5.out.inside); clear hgrow5 hwhere5 hown5 v0 vf)
        go_wp2
        go_roundw
        case rel => exact ⟨i + 1, k3, L ++ [flZ lv], _, by omega, by go_num, by omega, by omega, hst.out, ownsRow_setCell_below hown6h.out (by simp) _, R5.out.far _ (by simp) _, V5.out.put 0 _, CurAt.far C5.out (grown_setP _ _ _) (by intro j hj; injection hj with hj; simp at hj; omega), (grown_far G5.out (grown_setP _ _ _) (by intro j hj; injection hj with hj; simp at hj; omega)), by simp; omega⟩
        case measure => simp [intOf]; omega
    · have hij : i = S.length := by omega
      subst hij
      have v0 := hV.out.read 0
      have r0 := hR.out.read 0
      have rf := hR.out.free 0
      have hvc := Lib.hid (hU.out.all)
      go_wp2
      have z0 : (wr.setCell ⟨w.heap.size, 0, none⟩ (.slice vx L.length vc)).cell? ⟨w.heap.size, 0, none⟩ = some (.slice vx L.length vc) := (hR.out.put 0 (.slice vx L.length vc)).read 0
      refine bodyPost_ret (v := .agg #[.slice vx L.length vc]) (by simp [results, Try.results63, go_sem, *]) rfl (⟨L, vx, vc, kk, rfl, hvc.out, by omega, by omega, ?_, ?_, ?_⟩)
      · exact own_more (ownsRow_setCell_below hown.out (by simp) _) (by omega)
      · exact CurAt.far hC.out (grown_setP _ _ _) (by intro j hj; injection hj with hj; simp at hj; omega)
      · exact grown_far hg.out (grown_setP _ _ _) (by intro j hj; injection hj with hj; simp at hj; omega)
/-- What the draw of any edit hands back. -/
def EaPost (b : Nat) (x : Option Addr) (n cap k more : Nat) (w : World) (e : Ending) (w' : World) : Prop :=
  ∃ (E : List Int) (u : Option Addr) (c k' : Nat), e = .returned (.agg #[.slice u E.length c]) ∧ 1 ≤ E.length ∧ E.length ≤ 7 ∧ (∀ m ∈ E, -1 ≤ m ∧ m ≤ 256) ∧ k ≤ k' ∧ k' ≤ k + more ∧ w'.ownsRow w.heap.size 3 1 (.slice u E.length c) E.length (iC E) ∧ CurAt w' b x n cap k' ∧ w.grownBy w' (some b)
theorem ownD_one (w : World) (m : Int) (base g : Nat) (hg : w.heap.size = g) (h : base ≤ g) : (w.alloc (.cells #[.int .i64 m] 3)).ownsRow base 3 1 (.slice (some ⟨g, 0, none⟩) 1 1) 1 (iC [m]) := by
  subst hg
  exact ⟨rfl, Or.inr ⟨w.heap.size, 1, #[.int .i64 m], rfl, h, heap_alloc_new w _, Nat.le_refl _, by unfold maxLen; omega, rfl, rfl⟩⟩
set_option maxHeartbeats 1000000 in
theorem anyEdit_bad (b : Nat) (x : Option Addr) (n cap k more : Nat) (y : Option Addr) (cy : Nat) (S : List (ByteArray × Int)) (w : World) (hs : schB S = false) (hC : CurAt w b x n cap k) (hS : SIn w y cy S) :
    Calls Try.prog 46 #[.pointer (some ⟨b, 0, none⟩), .slice y S.length cy] w (EaPost b x n cap k more w) := by
  have hbs := hC.inside
  have hC2 := Lib.hid hC
  have hS2 := Lib.hid hS
  have q0 := Lib.hid (Wb.new w 61 #[.slice none 0 0])
  have g0 := Lib.hid (grown_alloc (grown_refl w (some b)) (.cells #[.slice none 0 0] 61))
  clear hC hS
  go_enter Try.func46, Try.ntmps46
  go_wp2_with fail
  refine (sGood_x _ _ S _ (hS2.out.below (by exact (by repeat (first | exact Below.refl _ _ | assumption | refine Below.drew ?_ | refine below_drewN ?_ _ | refine Below.alloc' ?_ _ | (refine Below.setCell ?_ (by first | omega | (simp; done) | (simp; omega) | exact Below.size (by assumption) | exact Nat.le_trans (Below.size (by assumption)) (by simp)) _) | (refine Below.via' ?_ (by assumption)) | (refine Below.alloc ?_ (by first | omega | (simp; done) | (simp; omega) | exact Below.size (by assumption) | exact Nat.le_trans (Below.size (by assumption)) (by simp)) _) | (refine Below.via ?_ (by assumption) (by first | omega | (simp; done) | (simp; omega) | exact Below.size (by assumption) | exact Nat.le_trans (Below.size (by assumption)) (by simp)))))))).mono ?_
  rintro e w1 ⟨rfl, hb1⟩
  rw [hs]
  have q1 := Lib.hid (q0.out.kept hb1)
  have g1 := Lib.hid (grown_trans g0.out (grown_of_below hb1 _))
  have c1 := Lib.hid ((hC2.out.alloc (.cells #[.slice none 0 0] 61)).far (r := none) ⟨hb1.os, hb1.tape, hb1.output, hb1.size, fun k hk _ => hb1.block k hk⟩ (by intro j hj; cases hj))
  have v1 := q1.out.read 0
  have f1 := q1.out.free 0
  have hs1 := g1.out.size
  have hin := q1.out.inside
  have q2 := Lib.hid (q1.out.kept ((Below.refl _ _).alloc (Nat.le_refl _) (.cells #[.int .i64 1] 3)))
  have v2 := q2.out.read 0
  have f2 := q2.out.free 0
  clear hb1
  go_wp2
  have z0 : ((w1.alloc (.cells #[.int .i64 1] 3)).setCell ⟨w.heap.size, 0, none⟩ (.slice (some ⟨w1.heap.size, 0, none⟩) 1 1)).cell? ⟨w.heap.size, 0, none⟩ = some (.slice (some ⟨w1.heap.size, 0, none⟩) 1 1) := (q2.out.put 0 (.slice (some ⟨w1.heap.size, 0, none⟩) 1 1)).read 0
  refine bodyPost_ret (v := .agg #[.slice (some ⟨w1.heap.size, 0, none⟩) 1 1]) (by simp [results, Try.results46, go_sem, *]) rfl (⟨[1], _, _, k, rfl, by simp, by simp, by simp, by omega, by omega, ?_, ?_, ?_⟩)
  · exact ownD_one _ 1 _ _ (by simp) (by omega)
  · exact (CurAt.far c1.out (grown_setP _ ⟨w.heap.size, 0, none⟩ _) (by intro j hj; injection hj with hj; subst hj; exact hbs)).alloc _
  · exact grown_alloc (grown_far g1.out (grown_setP _ ⟨w.heap.size, 0, none⟩ _) (by intro j hj; injection hj with hj; subst hj; exact Nat.le_refl _)) _
end Go.Proofs.Ytjbhmofaackjpaa
