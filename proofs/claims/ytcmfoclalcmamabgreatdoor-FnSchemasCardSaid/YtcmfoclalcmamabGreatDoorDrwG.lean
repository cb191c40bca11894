/-
  The model's draws of chapter 2: groupings.
-/
import Derived.Test.YtcmfoclalcmamabGreatDoorDrwV
import Derived.Deep.DeepCutAuto
import Derived.Deep.CutRange
namespace Go.Proofs.YtcmfoclalcmamabGreatDoor
open Go.RowKit
set_option maxRecDepth 100000

theorem l1Least_any (a b : Int) (w : World) : Calls Tryz.prog 121 #[.int .i64 a, .int .i64 b] w fun e w' => e = .returned (.int .i64 (minZ a b)) ∧ w = w' := by
  by_cases h : a < b
  · have hv : Hid (minZ a b = a) := by unfold Hid minZ; rw [if_pos h]
    go_enter Tryz.func121, Tryz.ntmps121
    go_wp2
    go_ret
    exact ⟨ret_int hv.out.symm, rfl⟩
  · have hv : Hid (minZ a b = b) := by unfold Hid minZ; rw [if_neg h]
    go_enter Tryz.func121, Tryz.ntmps121
    go_wp2
    go_ret
    exact ⟨ret_int hv.out.symm, rfl⟩
def NnI (L : List Int) : Prop := ∀ n ∈ L, 0 ≤ n ∧ n ≤ 9
theorem NnI.nil : NnI [] := fun n hn => by cases hn
theorem NnI.snoc {L : List Int} {n : Int} (h : NnI L) (h1 : 0 ≤ n) (h2 : n ≤ 9) : NnI (L ++ [n]) := by
  intro m hm
  rcases List.mem_append.1 hm with hm | hm
  · exact h m hm
  · simp at hm
    subst hm
    exact ⟨h1, h2⟩
theorem NnI.set {L : List Int} {n : Int} (h : NnI L) (k : Nat) (h1 : 0 ≤ n) (h2 : n ≤ 9) : NnI (L.set k n) := by
  intro m hm
  rcases List.mem_or_eq_of_mem_set hm with hm | rfl
  · exact h m hm
  · exact ⟨h1, h2⟩
theorem Wb.far {W : World} {g : Nat} {t : TypeId} {cs : Array Value} (h : Wb W g t cs) (p : Addr) (hne : g ≠ p.block) (u : Value) : Wb (W.setCell p u) g t cs := (Below.heap_setCell _ _ _ _ hne).trans h
theorem Rd.varA {w : World} {bl off : Nat} {S : List (ByteArray × Int)} {j : Nat} {nm : ByteArray} {lv : Int} (h : Rd w (some ⟨bl, off, none⟩) (vC S)) (hj : S[j]? = some (nm, lv)) :
    w.cell? ⟨bl, off + j * 2, none⟩ = some (.string nm) ∧ w.cell? ⟨bl, off + j * 2 + 1, none⟩ = some (.int .i64 lv) := by
  have h0 := vC_at0 hj
  have h1 := vC_at1 hj
  rcases h with h | ⟨b, o, e, _, hc⟩
  · rw [h] at h0
    cases h0
  · injection e with e
    injection e with e1 e2
    subst e1 e2
    exact ⟨hc _ _ h0, by have := hc _ _ h1; rw [← Nat.add_assoc] at this; exact this⟩
theorem grown_setP (W : World) (p : Addr) (v : Value) : W.grownBy (W.setCell p v) (some p.block) :=
  ⟨rfl, rfl, rfl, by simp [World.setCell], fun k _ hk => Below.heap_setCell _ _ _ k (fun e => hk (by rw [e]))⟩
theorem own_farC {w : World} {base e size n : Nat} {v : Value} {xs : List Value} (h : w.ownsRow base e size v n xs) (p : Addr) (hp : p.block < base) (u : Value) : (w.setCell p u).ownsRow base e size v n xs := by
  refine h.kept (grown_setP w p u) ?_
  cases hv : v.ownBlock with
  | none => exact Or.inl rfl
  | some k => exact Or.inr (fun e => by injection e with e; have := (h.lt k hv).1; omega)
/-- The grouping that is being drawn: its block, its list's row, the cursor. -/
def GrSt (b : Nat) (x : Option Addr) (n cap k more hi : Nat) (w : World) (wx : World) : Prop :=
  ∃ (v : Int) (L : List Int) (u : Value) (kk : Nat), -1 ≤ v ∧ v ≤ 9 ∧ NnI L ∧ L.length ≤ hi ∧ k ≤ kk ∧ kk ≤ k + more ∧ Wb wx (w.heap.size + 1) 30 #[.int .i64 v, u] ∧ Wb wx w.heap.size 30 #[.int .i64 0, .slice none 0 0] ∧
    wx.ownsRow (w.heap.size + 2) 3 1 u L.length (iC L) ∧ CurAt wx b x n cap kk ∧ w.grownBy wx (some b)
def GrpPost (b : Nat) (x : Option Addr) (n cap k more hi : Nat) (w : World) (e : Ending) (w' : World) : Prop :=
  ∃ (v : Int) (L : List Int) (u : Value) (k' : Nat), e = .returned (.agg #[.int .i64 v, u]) ∧ -1 ≤ v ∧ v ≤ 9 ∧ NnI L ∧ L.length ≤ hi ∧ k ≤ k' ∧ k' ≤ k + more ∧ w'.ownsRow w.heap.size 3 1 u L.length (iC L) ∧ CurAt w' b x n cap k' ∧ w.grownBy w' (some b)
theorem gr_fin {b : Nat} {x : Option Addr} {n cap k : Nat} {w W : World} (v : Int) (L : List Int) (u : Value) (kk : Nat) (h1 : -1 ≤ v) (h2 : v ≤ 9) (h3 : NnI L) (h4 : L.length ≤ 10) (h5 : k ≤ kk) (h6 : kk ≤ k + 100) (hO : W.ownsRow (w.heap.size + 2) 3 1 u L.length (iC L)) (hC : CurAt W b x n cap kk) (hG : w.grownBy W (some b)) (hb : b < w.heap.size) {a1 a2 : Value} :
    GrpPost b x n cap k 100 10 w (.returned (.agg #[.int .i64 v, u])) ((W.setCell ⟨w.heap.size, 0, none⟩ a1).setCell ⟨w.heap.size, 1, none⟩ a2) :=
  ⟨v, L, u, kk, rfl, h1, h2, h3, h4, h5, h6, own_more (own_farC (own_farC hO ⟨w.heap.size, 0, none⟩ (by show w.heap.size < _; omega) _) ⟨w.heap.size, 1, none⟩ (by show w.heap.size < _; omega) _) (by omega), (hC.set (by omega) 0 _).set (by omega) 1 _, grown_set (grown_set hG (Nat.le_refl _) 0 _) (Nat.le_refl _) 1 _⟩
set_option maxHeartbeats 8000000 in
theorem grouping_any (b : Nat) (x : Option Addr) (n cap k : Nat) (y : Option Addr) (cy : Nat) (S : List (ByteArray × Int)) (w : World) (hk : k + 300 ≤ 1000000000000) (hC : CurAt w b x n cap k) (hB : ByRd w x n) (hD : DrS S) (hS : Rd w y (vC S)) (hyb : ∀ c off, y = some ⟨c, off, none⟩ → some c ≠ some b) :
    Calls Tryz.prog 59 #[.pointer (some ⟨b, 0, none⟩), .slice y S.length cy] w (GrpPost b x n cap k 100 10 w) := by
  obtain ⟨i0, hi, hz0, hz1, hz2⟩ := info_parts Tryz.infoInt
  have hbs := hC.inside
  have hap := Lib.hid hC.apart
  have hC2 := Lib.hid hC
  have hB2 := Lib.hid hB
  have hS2 := Lib.hid hS
  have hy2 := Lib.hid hyb
  have hl7 := hD.1
  replace hD := Lib.hid hD
  clear hC hB hS hyb
  have A0 := Wb.new w 30 #[.int .i64 0, .slice none 0 0]
  have A1 := Wb.new (w.alloc (.cells #[.int .i64 0, .slice none 0 0] 30)) 30 #[.int .i64 0, .slice none 0 0]
  have g2 : w.grownBy ((w.alloc (.cells #[.int .i64 0, .slice none 0 0] 30)).alloc (.cells #[.int .i64 0, .slice none 0 0] 30)) (some b) := grown_alloc (grown_alloc (grown_refl _ _) _) _
  have A2 : Wb ((w.alloc (.cells #[.int .i64 0, .slice none 0 0] 30)).alloc (.cells #[.int .i64 0, .slice none 0 0] 30)) w.heap.size 30 #[.int .i64 0, .slice none 0 0] := wb_grown A0 (World.grownBy_alloc _ _ none) (by intro j hj; cases hj)
  have A3 : Wb ((w.alloc (.cells #[.int .i64 0, .slice none 0 0] 30)).alloc (.cells #[.int .i64 0, .slice none 0 0] 30)) (w.heap.size + 1) 30 #[.int .i64 0, .slice none 0 0] := by simpa using A1
  have C1 := (hC2.out.alloc (.cells #[.int .i64 0, .slice none 0 0] 30)).alloc (.cells #[.int .i64 0, .slice none 0 0] 30)
  have hst : Hid (GrSt b x n cap k 0 0 w ((w.alloc (.cells #[.int .i64 0, .slice none 0 0] 30)).alloc (.cells #[.int .i64 0, .slice none 0 0] 30))) := ⟨0, [], .slice none 0 0, k, by omega, by omega, NnI.nil, by simp, by omega, by omega, A3, A2, World.ownsRow_nil _ _ _ _, C1, g2⟩
  replace g2 := Lib.hid g2
  replace A2 := Lib.hid A2
  replace A3 := Lib.hid A3
  replace C1 := Lib.hid C1
  clear A0 A1
  go_enter Tryz.func59, Tryz.ntmps59
  go_upto_if 13 with fail
  go_cut [6] from 6 to 58 (fun s6 wx => GrSt b x n cap k 60 9 w wx)
  case first =>
    by_cases h0 : S.length = 0
    · have h0' : ¬ (0 : Int) < (S.length : Int) := by omega
      replace h0 := Lib.hid h0
      go_wp2_with fail
      go_meet
      obtain ⟨v, L, u, kk, a1, a2, a3, a4, a5, a6, a7⟩ := hst.out
      exact ⟨v, L, u, kk, a1, a2, a3, by omega, by omega, by omega, a7⟩
    · have h0' : (0 : Int) < (S.length : Int) := by omega
      go_wp2_with fail
      refine (pick_any b x n cap k S.length _ (by omega) (by omega) (by omega) C1.out ((hB2.out.alloc _).alloc _)).mono ?_
      rintro e w1 ⟨m, k1, rfl, m0, m1, ka, kb, hC3, hg3⟩
      obtain ⟨j, rfl⟩ := Int.eq_ofNat_of_zero_le m0
      have hj : j < S.length := by omega
      have hj' : (j : Int) < (S.length : Int) := by omega
      have G1 := grown_trans g2.out hg3
      have V1 := wb_grown A3.out hg3 (fun i hi => by injection hi with hi; omega)
      have R1 := wb_grown A2.out hg3 (fun i hi => by injection hi with hi; omega)
      have hs1 := hg3.size
      simp only [World.size_alloc] at hs1
      have cb0 := V1.read 0
      have fb0 := V1.free 0
      have V2 : Wb (w1.setCell ⟨w.heap.size + 1, 0, none⟩ (.int .i64 (j : Int))) (w.heap.size + 1) 30 #[.int .i64 (j : Int), .slice none 0 0] := V1.put 0 _
      have R2 := Lib.hid (R1.far ⟨w.heap.size + 1, 0, none⟩ (show w.heap.size ≠ w.heap.size + 1 by omega) (.int .i64 (j : Int)))
      have G2 := Lib.hid (grown_set G1 (show w.heap.size ≤ w.heap.size + 1 by omega) 0 (.int .i64 (j : Int)))
      have C2 := Lib.hid (hC3.set (show w.heap.size + 1 ≠ b by omega) 0 (.int .i64 (j : Int)))
      obtain ⟨bl, off, nm, lv, hy, hbl, hSi, hc0, hc1⟩ := (hS2.out.keep G2.out hy2.out).var hj
      subst hy
      obtain ⟨l1, l2⟩ := hD.out.at hSi
      have cV0 := V2.read 0
      have cV1 := V2.read 1
      replace V2 := Lib.hid V2
      replace hSi := Lib.hid hSi
      clear G1 V1 R1 hC3 hg3 hst C1 A2 A3 g2
      have hlv : (0 : Int) < lv := by omega
      go_wp2_with fail
      refine (pick_any b x n cap k1 3 _ (by omega) (by omega) (by omega) C2.out (hB2.out.grown G2.out hap.out)).mono ?_
      rintro e w2 ⟨q, k2, rfl, q0, q1, kc, kd, hC4, hg4⟩
      have G3 := Lib.hid (grown_trans G2.out hg4)
      have V3 := Lib.hid (wb_grown V2.out hg4 (fun i hi => by injection hi with hi; omega))
      have R3 := Lib.hid (wb_grown R2.out hg4 (fun i hi => by injection hi with hi; omega))
      replace hC4 := Lib.hid hC4
      obtain ⟨kz, hkz⟩ : ∃ kz, minZ (2 + q) lv = kz := ⟨_, rfl⟩
      have hk1 : 1 ≤ kz := by rw [← hkz]; unfold minZ; split <;> omega
      have hk9 : kz ≤ 9 := by rw [← hkz]; unfold minZ; split <;> omega
      clear hc0 hc1 cV0 cV1 cb0 fb0 G2 V2 R2 C2 hg4
      go_wp2_with (go_at_call 121; refine (l1Least_any _ _ _).mono ?_; rintro e w9 ⟨rfl, rfl⟩)
      clear hkz
      go_loopw [8] (fun c wr => ∃ (i kk : Nat) (L : List Int) (u : Value), (i : Int) ≤ lv ∧ L.length = i ∧ k ≤ kk ∧ kk ≤ k + 10 + 2 * i ∧ c = .int .i64 i ∧ Hid (wr.ownsRow (w.heap.size + 2) 3 1 u L.length (iC L)) ∧ Hid (NnI L) ∧ Hid (CurAt wr b x n cap kk) ∧ Hid (w.grownBy wr (some b)) ∧ Hid (Wb wr (w.heap.size + 1) 30 #[.int .i64 (j : Int), u]) ∧ Hid (Wb wr w.heap.size 30 #[.int .i64 0, .slice none 0 0])) (fun c _ => 10 - (intOf c).toNat)
      case atStart => exact ⟨0, k2, [], .slice none 0 0, by omega, rfl, by omega, by omega, rfl, World.ownsRow_nil _ _ _ _, NnI.nil, hC4.out, G3.out, V3.out, R3.out⟩
      case round =>
        clear G3 V3 R3 hC4
        obtain ⟨i, kk, L, u, hil, hLi, hk1', hk2', rfl, hown, hI, hC, hg, hV, hR⟩ := hrel
        have hbr := hC.out.inside
        have hws := hg.out.size
        obtain ⟨-, hcS⟩ := (hS2.out.keep hg.out hy2.out).varA hSi.out
        have cb0 := hV.out.read 0
        have cb1 := hV.out.read 1
        have fb1 := hV.out.free 1
        have hLn : L.length ≤ 9 := by omega
        have hlow := Lib.hid hown.out.lt
        replace hLi := Lib.hid hLi
        by_cases hlt : (i : Int) < lv
        · by_cases hik : (i : Int) < kz
          · go_wp2_with (at_builtin; go_loud (refine wpList_append_rd _ rfl (.tmp 46) (.tmp 48) 26 rfl (w.heap.size + 2) 3 i0 (.int .i64 0) 1 8 Tryz.underlying26 hi hz0 hz1 hz2 rfl (by decide) _ L.length (iC L) rfl (hown.out.alloc _) _ 1 1 rfl (Nat.le_refl _) (by intro h; cases h) (iC [(i : Int)]) rfl (Rd.oneI_at _ _ _ _ (by simp)) (iC_one _) (by unfold maxLen; omega) (by omega) (by have := hV.out.inside; simp; omega) ?_); intro v5 w5 hown5 hgrow5 hwhere5; (obtain ⟨z5, c5, rfl, -, -⟩ := own_form hown5); (have V5 := Lib.hid (wb_grown (wb_grown hV.out (World.grownBy_alloc _ _ none) (by intro i hi; cases hi)) hgrow5 (fun i hi => by have := (hlow.out i hi).1; omega))); (have c51 := V5.out.read 1); (have f51 := V5.out.free 1))
            have R5 := wb_grown (wb_grown hR.out (World.grownBy_alloc _ _ none) (by intro i hi; cases hi)) hgrow5 (fun i hi => by have := (hlow.out i hi).1; omega)
            have G5 := grown_far (grown_alloc hg.out _) hgrow5 (fun j hj => by have := (hlow.out j hj).1; omega)
            have C5 := (hC.out.alloc _).far hgrow5 (fun j hj => by have := (hlow.out j hj).1; omega)
            have hown6 := own_eq (n' := (L ++ [(i : Int)]).length) hown5 (by simp) (iC_app _ _).symm
            have hLi' := hLi.out
            go_roundw
            case rel => exact ⟨i + 1, kk, L ++ [(i : Int)], _, by omega, by simp; omega, by omega, by omega, by go_num, own_farC hown6 ⟨w.heap.size + 1, 1, none⟩ (show w.heap.size + 1 < w.heap.size + 2 by omega) _, hI.out.snoc (by omega) (by omega), C5.set (show w.heap.size + 1 ≠ b by omega) 1 _, grown_set G5 (show w.heap.size ≤ w.heap.size + 1 by omega) 1 _, V5.out.put 1 _, R5.far ⟨w.heap.size + 1, 1, none⟩ (show w.heap.size ≠ w.heap.size + 1 by omega) _⟩
            case measure => simp [intOf]; omega
          · have hCd : Hid (CurAt wr.drew b x n cap kk) := hC.out
            have hBd : Hid (ByRd wr.drew x n) := ByRd.drewW (hB2.out.grown hg.out hap.out)
            go_wp2_with fail
            go_region_law (first
              | (go_simp; go_at_call 52; refine (pick_any b x n cap kk kz wr.drew (by omega) (by omega) (by omega) hCd.out hBd.out).mono ?_; rintro e w4 ⟨q4, k4, rfl, q40, q41, ke, kf, hC4, hg4⟩; (have hg4 := drew_back hg4); (have O4 := Lib.hid (own_cur2 hown.out (by omega) hg4)); (have V4 := Lib.hid (wb_grown hV.out hg4 (fun j hj => by injection hj with hj; omega))); (have c41 := V4.out.read 1); (have f41 := V4.out.free 1); (have hs4 := V4.out.inside); (have hC4 := Lib.hid hC4); (have hg4 := Lib.hid hg4))
              | (go_loud (refine step_append_rd _ rfl (.tmp 52) (.tmp 56) 26 rfl (w.heap.size + 2) 3 i0 (.int .i64 0) 1 8 Tryz.underlying26 hi hz0 hz1 hz2 rfl (by decide) _ L.length (iC L) rfl (O4.out.alloc _) _ 1 1 rfl (Nat.le_refl _) (by intro h; cases h) (iC [q4]) rfl (Rd.oneI_at _ _ _ _ (by simp)) (iC_one _) (by unfold maxLen; omega) (by omega) (by simp; omega) ?_); intro v5 w5 hown5 hgrow5 hwhere5; (obtain ⟨z5, c5, rfl, -, -⟩ := own_form hown5); (have hgr : (w4.alloc (.cells #[.int .i64 q4] 3)).grownBy w5 (Value.ownBlock u) := hgrow5); (have V5 := Lib.hid (wb_grown (wb_grown V4.out (World.grownBy_alloc _ _ none) (by intro i hi; cases hi)) hgr (fun i hi => by have := (hlow.out i hi).1; omega))); (have c51 := V5.out.read 1); (have f51 := V5.out.free 1))
              )
            all_goals
              clear hgrow5 hwhere5
              have R5 := wb_grown (wb_grown (wb_grown hR.out hg4.out (fun j hj => by injection hj with hj; omega)) (World.grownBy_alloc _ _ none) (by intro i hi; cases hi)) hgr (fun i hi => by have := (hlow.out i hi).1; omega)
              have G5 := grown_far (grown_alloc (grown_trans hg.out hg4.out) _) hgr (fun j hj => by have := (hlow.out j hj).1; omega)
              have C5 := (hC4.out.alloc _).far hgr (fun j hj => by have := (hlow.out j hj).1; omega)
              have hown6 := own_eq (n' := (L ++ [q4]).length) hown5 (by simp) (iC_app _ _).symm
              go_wp2
              go_roundw
              case rel =>
                have hLi' := hLi.out
                exact ⟨i + 1, k4, L ++ [q4], _, by omega, by simp; omega, by omega, by omega, by go_num, own_farC hown6 ⟨w.heap.size + 1, 1, none⟩ (show w.heap.size + 1 < w.heap.size + 2 by omega) _, hI.out.snoc (by omega) (by omega), C5.set (show w.heap.size + 1 ≠ b by omega) 1 _, grown_set G5 (show w.heap.size ≤ w.heap.size + 1 by omega) 1 _, V5.out.put 1 _, R5.far ⟨w.heap.size + 1, 1, none⟩ (show w.heap.size ≠ w.heap.size + 1 by omega) _⟩
              case measure => simp [intOf]; omega
        · go_wp2_with fail
          go_meet
          exact ⟨(j : Int), L, u, kk, by omega, by omega, hI.out, by omega, by omega, by omega, hV.out, hR.out, hown.out, hC.out, hg.out⟩
  case rest =>
    clear hst g2 A2 A3 C1
    obtain ⟨wx, rfl⟩ : ∃ x : World, x = wc := ⟨_, rfl⟩
    obtain ⟨v, L, u, kk, v1, v2, hI, hL9, hk1, hk2, V, R, O, C, G⟩ := hcut
    obtain ⟨z, cz, rfl, hcz, hzn⟩ := own_form O
    replace hI := Lib.hid hI
    have hs0 := G.size
    have hV0 := V.inside
    go_wp2_with fail
    refine (pick_any b x n cap kk 16 _ (by omega) (by omega) (by omega) C (hB2.out.grown G hap.out)).mono ?_
    rintro e w1 ⟨m, k1, rfl, m0, m1, ka, kb, hC1, hg1⟩
    have G1 := Lib.hid (grown_trans G hg1)
    have V1 := Lib.hid (wb_grown V hg1 (fun j hj => by injection hj with hj; omega))
    have R1 := Lib.hid (wb_grown R hg1 (fun j hj => by injection hj with hj; omega))
    have O1 := Lib.hid (own_cur2 O (by omega) hg1)
    replace hC1 := Lib.hid hC1
    clear V R O C G hg1
    by_cases e0 : m = 0
    · subst e0
      go_wp2_with fail
      refine (among_any b x n cap k1 w1.heap.size _ [-1, 0, 1, 9] _ (by omega) (by simp) (by simp) (by have := hC1.out.inside; omega) (IRd.lit w1 [-1, 0, 1, 9] 3) (hC1.out.alloc _) ((hB2.out.grown G1.out hap.out).alloc _)).mono ?_
      rintro e w3 ⟨q, k3, rfl, hmem, ke, kf, hC4, hg3⟩
      have hq : -1 ≤ q ∧ q ≤ 9 := by simp at hmem; omega
      have hg3' := grown_trans (grown_alloc (grown_refl w1 (some b)) _) hg3
      have G3 := Lib.hid (grown_trans G1.out hg3')
      have V3 := wb_grown V1.out hg3' (fun j hj => by injection hj with hj; omega)
      have R3 := wb_grown R1.out hg3' (fun j hj => by injection hj with hj; omega)
      have O3 := Lib.hid (own_cur2 O1.out (by omega) hg3')
      have c0 := V3.read 0
      have c1 := V3.read 1
      have f0 := V3.free 0
      have r0 := R3.read 0
      have r1 := R3.read 1
      have fr0 := R3.free 0
      have fr1 := R3.free 1
      replace hC4 := Lib.hid hC4
      clear hmem hg3 hg3' V3 R3 V1 R1 O1 hC1 G1
      go_wp2_with fail
      refine bodyPost_ret (v := .agg #[.int .i64 q, .slice z L.length cz]) (by simp [results, Tryz.results59, go_sem, *]) rfl ?_
      exact gr_fin q L _ k3 hq.1 hq.2 hI.out (by omega) (by omega) (by omega) (own_farC O3.out ⟨w.heap.size + 1, 0, none⟩ (show w.heap.size + 1 < w.heap.size + 2 by omega) _) (hC4.out.set (show w.heap.size + 1 ≠ b by omega) 0 _) (grown_set G3.out (show w.heap.size ≤ w.heap.size + 1 by omega) 0 _) hbs
    by_cases e1 : m = 1
    · subst e1
      have c0 := V1.out.read 0
      have c1 := V1.out.read 1
      have f1 := V1.out.free 1
      have hlow := Lib.hid O1.out.lt
      go_wp2_with (at_builtin; go_loud (refine wpList_append_rd _ rfl (.tmp 70) (.tmp 71) 26 rfl (w.heap.size + 2) 3 i0 (.int .i64 0) 1 8 Tryz.underlying26 hi hz0 hz1 hz2 rfl (by decide) _ L.length (iC L) rfl (O1.out.alloc _) _ 1 1 rfl (Nat.le_refl _) (by intro h; cases h) (iC [0]) rfl (Rd.oneI_at _ _ _ _ (by simp)) (iC_one _) (by unfold maxLen; omega) (by omega) (by have := V1.out.inside; simp; omega) ?_); intro v5 w5 hown5 hgrow5 hwhere5; (obtain ⟨z5, c5, rfl, -, -⟩ := own_form hown5); (have V5 := wb_grown (wb_grown V1.out (World.grownBy_alloc _ _ none) (by intro i hi; cases hi)) hgrow5 (fun i hi => by have := (hlow.out i hi).1; omega)); (have R5 := wb_grown (wb_grown R1.out (World.grownBy_alloc _ _ none) (by intro i hi; cases hi)) hgrow5 (fun i hi => by have := (hlow.out i hi).1; omega)); (have c50 := V5.read 0); (have c51 := V5.read 1); (have f51 := V5.free 1); (have r0 := R5.read 0); (have r1 := R5.read 1); (have fr0 := R5.free 0); (have fr1 := R5.free 1); (have G5 := Lib.hid (grown_far (grown_alloc G1.out _) hgrow5 (fun j hj => by have := (hlow.out j hj).1; omega))); (have C5 := Lib.hid ((hC1.out.alloc _).far hgrow5 (fun j hj => by have := (hlow.out j hj).1; omega))); (have hown6 := Lib.hid (own_eq (n' := (L ++ [(0 : Int)]).length) hown5 (by simp) (iC_app _ _).symm)); clear V5 R5 hown5 hgrow5 hwhere5)
      refine bodyPost_ret (v := .agg #[.int .i64 v, .slice z5 (L.length + 1) c5]) (by simp [results, Tryz.results59, go_sem, *]) rfl ?_
      exact gr_fin v (L ++ [0]) _ k1 v1 v2 (hI.out.snoc (by omega) (by omega)) (by simp; omega) (by omega) (by omega) (own_farC hown6.out ⟨w.heap.size + 1, 1, none⟩ (show w.heap.size + 1 < w.heap.size + 2 by omega) _) (C5.out.set (show w.heap.size + 1 ≠ b by omega) 1 _) (grown_set G5.out (show w.heap.size ≤ w.heap.size + 1 by omega) 1 _) hbs
    by_cases e2 : m = 2
    · subst e2
      have c0 := V1.out.read 0
      have c1 := V1.out.read 1
      go_wp2_with fail
      go_loopw [79] (fun c wr => ∃ (i : Nat) (M : List Int), i ≤ L.length ∧ c = .int .i64 i ∧ Hid (M.length = L.length) ∧ Hid (NnI M) ∧ Hid (wr.ownsRow (w.heap.size + 2) 3 1 (.slice z L.length cz) L.length (iC M)) ∧ Hid (CurAt wr b x n cap k1) ∧ Hid (w.grownBy wr (some b)) ∧ Hid (Wb wr (w.heap.size + 1) 30 #[.int .i64 v, .slice z L.length cz]) ∧ Hid (Wb wr w.heap.size 30 #[.int .i64 0, .slice none 0 0])) (fun c _ => L.length - (intOf c).toNat)
      case atStart => exact ⟨0, L, by omega, rfl, rfl, hI.out, O1.out, hC1.out, G1.out, V1.out, R1.out⟩
      case round =>
        clear c0 c1 V1 R1 O1 hC1 G1
        obtain ⟨i, M, hi, rfl, hML, hM, hO, hC, hG, hV, hR⟩ := hrel
        have c0 := hV.out.read 0
        have c1 := hV.out.read 1
        by_cases hlt : i < L.length
        · obtain ⟨g, cg, hz⟩ := own_some2 hO.out (by omega)
          injection hz with hz1 hz2 hz3
          subst hz1 hz3
          have hgl := own_lt hO.out
          obtain ⟨a, ha⟩ : ∃ a, M[i]? = some a := ⟨_, List.getElem?_eq_getElem (by have := hML.out; omega)⟩
          obtain ⟨a0, a1⟩ := hM.out a (List.mem_of_getElem? ha)
          have hcell : _ = some (Value.int .i64 a) := (hO.out.cellAt i (by omega)).trans (iC_at ha)
          have hfr := hO.out.frozenAt i
          have hlt' : (i : Int) < (L.length : Int) := by omega
          have hi0 : (0 : Int) ≤ (i : Int) := by omega
          have b0 := Int.emod_nonneg a (show (2 : Int) ≠ 0 by omega)
          have b1 := Int.emod_lt_of_pos a (show (0 : Int) < 2 by omega)
          have t1 : a.tmod 2 = a % 2 := Int.tmod_eq_emod_of_nonneg a0
          have t2 : IntKind.i64.wrap (a % 2) = a % 2 := IntWalk.i64_in _ (by omega)
          have t3 : IntKind.i64.wrap (2 * (a % 2)) = 2 * (a % 2) := IntWalk.i64_in _ (by omega)
          clear ha
          go_wp2_with fail
          go_region
          have hr := (hO.out.stored i (.int .i64 (2 * (a % 2)))).1
          have es : (iC M).set i (.int .i64 (2 * (a % 2))) = iC (M.set i (2 * (a % 2))) := by unfold iC; rw [List.map_set]
          rw [es] at hr
          have hq := grown_set hG.out (show w.heap.size ≤ g by omega) i (.int .i64 (2 * (a % 2)))
          clear es
          all_goals
            go_wp2
            exact ⟨⟨i + 1, M.set i (2 * (a % 2)), by omega, by go_num, by unfold Hid; rw [List.length_set]; exact hML.out, hM.out.set i (by omega) (by omega), hr.drew, hC.out.set (show g ≠ b by omega) i _, ⟨hq.os, hq.tape, hq.output, hq.size, hq.block⟩, hV.out.far ⟨g, i, none⟩ (show w.heap.size + 1 ≠ g by omega) _, hR.out.far ⟨g, i, none⟩ (show w.heap.size ≠ g by omega) _⟩, by simp [intOf]; omega⟩
        · have hij : i = L.length := by omega
          replace hij := Lib.hid hij
          have r0 := hR.out.read 0
          have r1 := hR.out.read 1
          have fr0 := hR.out.free 0
          have fr1 := hR.out.free 1
          have hlt' : ¬ (i : Int) < (L.length : Int) := by omega
          go_wp2_with fail
          refine bodyPost_ret (v := .agg #[.int .i64 v, .slice z L.length cz]) (by simp [results, Tryz.results59, go_sem, *]) rfl ?_
          exact gr_fin v M _ k1 v1 v2 hM.out (by have := hML.out; omega) (by omega) (by omega) (by rw [hML.out]; exact hO.out) hC.out hG.out hbs
    · have V3 := V1.out
      have R3 := R1.out
      have c0 := V3.read 0
      have c1 := V3.read 1
      have r0 := R3.read 0
      have r1 := R3.read 1
      have fr0 := R3.free 0
      have fr1 := R3.free 1
      clear V3 R3
      go_wp2_with fail
      refine bodyPost_ret (v := .agg #[.int .i64 v, .slice z L.length cz]) (by simp [results, Tryz.results59, go_sem, *]) rfl ?_
      exact gr_fin v L _ k1 v1 v2 hI.out (by omega) (by omega) (by omega) O1.out hC1.out G1.out hbs
end Go.Proofs.YtcmfoclalcmamabGreatDoor
