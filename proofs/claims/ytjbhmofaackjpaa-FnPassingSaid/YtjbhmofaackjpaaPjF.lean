import Derived.Test.YtjbhmofaackjpaaPjD
import Derived.Test.YtjbhmofaackjpaaEdS
import Derived.Test.YtjbhmofaackjpaaPjE
namespace Go.Proofs.Ytjbhmofaackjpaa
open Go.RowKit
set_option maxRecDepth 100000

theorem InsW.curE {w w1 : World} {lo b : Nat} {v : Value} {T : List PR} (h : InsW w lo v T) (hg : w.grownBy w1 (some b)) (hb : b < lo) : InsW w1 lo v T :=
  ⟨fun k hk => ⟨(h.1 k hk).1, Nat.lt_of_lt_of_le (h.1 k hk).2 hg.size⟩, fun q hq => ⟨(h.2 q hq).1.keep hg (fun c off e e2 => by have := ((h.2 q hq).2.2 c off e).1; injection e2 with e2; omega), (h.2 q hq).2.1, fun c off e => ⟨((h.2 q hq).2.2 c off e).1, Nat.lt_of_lt_of_le ((h.2 q hq).2.2 c off e).2.1 hg.size, ((h.2 q hq).2.2 c off e).2.2⟩⟩⟩
theorem InsW.nilE (w : World) (lo : Nat) : InsW w lo (.slice none 0 0) [] := ⟨fun k hk => (by cases hk), fun q hq => (by cases hq)⟩
/-- Edits that are drawn. -/
def DrE (T : List PR) : Prop := ∀ q ∈ T, q.L.length ≤ 7 ∧ ∀ m ∈ q.L, -1 ≤ m ∧ m ≤ 256
theorem DrE.nil : DrE [] := fun q hq => by cases hq
theorem DrE.snoc {T : List PR} {q : PR} (h : DrE T) (hq : q.L.length ≤ 7 ∧ ∀ m ∈ q.L, -1 ≤ m ∧ m ≤ 256) : DrE (T ++ [q]) := fun p hp => by
  rcases List.mem_append.1 hp with hp | hp
  · exact h p hp
  · rw [List.mem_singleton] at hp; subst hp; exact hq
theorem Rd.oneEd (w : World) (t : TypeId) (u : Option Addr) (n c g : Nat) (hg : w.heap.size = g) : Rd (w.alloc (.cells #[.slice u n c] t)) (some ⟨g, 0, none⟩) [.slice u n c] := by
  subst hg
  refine Or.inr ⟨w.heap.size, 0, rfl, by simp, fun j v hj => ?_⟩
  rw [Nat.zero_add, World.cell?_alloc_at _ _ _ _ rfl, ← hj, ← Array.getElem?_toList]
/-- What the draw of edits hands back. -/
def EsPost (b : Nat) (x : Option Addr) (n cap k more hi : Nat) (w : World) (e : Ending) (w' : World) : Prop :=
  ∃ (T : List PR) (v : Value) (k' : Nat), e = .returned v ∧ DrE T ∧ T.length ≤ hi ∧ k ≤ k' ∧ k' ≤ k + more ∧ w'.ownsRow w.heap.size 61 1 v T.length (eC T) ∧ InsW w' w.heap.size v T ∧ CurAt w' b x n cap k' ∧ w.grownBy w' (some b)
/-- The contract of the draw of any edit. -/
def AnyEd (b : Nat) (x : Option Addr) (n cap : Nat) (y : Option Addr) (cy : Nat) (S : List (ByteArray × Int)) : Prop :=
  ∀ (k : Nat) (w : World), k + 300 ≤ 1000000000000 → CurAt w b x n cap k → ByRd w x n → SIn w y cy S → (∀ c off, y = some ⟨c, off, none⟩ → some c ≠ some b) →
    Calls Try.prog 46 #[.pointer (some ⟨b, 0, none⟩), .slice y S.length cy] w (EaPost b x n cap k 60 w)
theorem SIn.keepC {w w' : World} {y : Option Addr} {cy b : Nat} {S : List (ByteArray × Int)} (h : SIn w y cy S) (hg : w.grownBy w' (some b)) (hyb : ∀ c off, y = some ⟨c, off, none⟩ → some c ≠ some b) : SIn w' y cy S := ⟨h.1, h.2.1, h.2.2.1, h.2.2.2.keep hg hyb⟩
theorem rows_apartE {W : World} {n1 n2 e1 e2 s1 s2 k1 k2 : Nat} {u v : Value} {xs ys : List Value} (h1 : W.ownsRow n1 e1 s1 u k1 xs) (h2 : W.ownsRow n2 e2 s2 v k2 ys) (hne : e1 ≠ e2) : u.ownBlock = none ∨ u.ownBlock ≠ v.ownBlock := by
  rcases h1.2 with ⟨rfl, _⟩ | ⟨g, cap, cur, rfl, _, hgb, _⟩
  · exact .inl rfl
  · refine .inr fun e' => ?_
    rcases h2.2 with ⟨rfl, _⟩ | ⟨g2, cap2, cur2, rfl, _, hgb2, _⟩
    · simp [Value.ownBlock] at e'
    · obtain rfl : g = g2 := by simpa [Value.ownBlock] using e'
      rw [hgb] at hgb2
      cases hgb2
      exact hne rfl
set_option maxHeartbeats 8000000 in
theorem edits_of (b : Nat) (x : Option Addr) (n cap k : Nat) (y : Option Addr) (cy : Nat) (S : List (ByteArray × Int)) (w : World) (hae : AnyEd b x n cap y cy S) (hk : k + 2000 ≤ 1000000000000) (hC : CurAt w b x n cap k) (hB : ByRd w x n) (hS : SIn w y cy S) (hyb : ∀ c off, y = some ⟨c, off, none⟩ → some c ≠ some b) :
    Calls Try.prog 27 #[.pointer (some ⟨b, 0, none⟩), .slice y S.length cy] w (EsPost b x n cap k 600 46 w) := by
  obtain ⟨i0, hi, hz0, hz1, hz2⟩ := info_parts Try.infoEd
  have hbs := hC.inside
  have hap := Lib.hid hC.apart
  have hC2 := Lib.hid hC
  have hB2 := Lib.hid hB
  have hS2 := Lib.hid hS
  have hy2 := Lib.hid hyb
  have hAE := Lib.hid hae
  clear hC hB hS hyb hae
  go_enter Try.func27, Try.ntmps27
  go_wp2_with fail
  refine (pick_any b x n cap k 6 w (by omega) (by omega) (by omega) hC2.out hB2.out).mono ?_
  rintro e w1 ⟨m, k1, rfl, m0, m1, ka, kb, hC3, hg1⟩
  obtain ⟨j0, rfl⟩ := Int.eq_ofNat_of_zero_le m0
  have hs1 := hg1.size
  replace hC3 := Lib.hid hC3
  replace hg1 := Lib.hid hg1
  go_wp2_with fail
  go_loopw [5, 6] (fun v c wr => ∃ (j kk : Nat) (T : List PR), j ≤ 5 ∧ T.length + j ≤ 5 ∧ k ≤ kk ∧ kk + 60 * j ≤ k + 304 ∧ c = .int .i64 j ∧ wr.ownsRow w.heap.size 61 1 v T.length (eC T) ∧ Hid (DrE T) ∧ Hid (InsW wr w.heap.size v T) ∧ Hid (CurAt wr b x n cap kk) ∧ Hid (w.grownBy wr (some b))) (fun _ c _ => (intOf c).toNat)
  case atStart => exact ⟨j0, k1, [], by omega, by simp; omega, by omega, by omega, rfl, World.ownsRow_nil _ _ _ _, DrE.nil, InsW.nilE _ _, hC3.out, hg1.out⟩
  case round =>
    clear hC3 hg1 hs1
    obtain ⟨j, kk, T, hj, hTl, hk1, hk2, rfl, hown, hBd, hIn, hC, hg⟩ := hrel
    have hbr := hC.out.inside
    have hws := hg.out.size
    obtain ⟨vx, vc, rfl, -, -⟩ := (OwR.of hown).form
    replace hown := Lib.hid hown
    by_cases hlt : 0 < j
    · obtain ⟨i, rfl⟩ : ∃ i, j = i + 1 := ⟨j - 1, by omega⟩
      have hlt' : (0 : Int) < ((i + 1 : Nat) : Int) := by omega
      go_wp2_with fail
      refine (hAE.out kk wr (by omega) hC.out (hB2.out.grown hg.out hap.out) (hS2.out.keepC hg.out hy2.out) hy2.out).mono ?_
      rintro e w2 ⟨E, u, c, k2, rfl, h1, h7, hb, kc, kd, ho2, hC3, hg3⟩
      have G2 := Lib.hid (grown_trans hg.out hg3)
      have O2 := Lib.hid (own_cur2 hown.out (by omega) hg3)
      have I2 := Lib.hid (hIn.out.curE hg3 (by omega))
      have hs2 := hg3.size
      have hq := Lib.hid (show DrE (T ++ [(⟨0, 0, u, c, E⟩ : PR)]) from hBd.out.snoc ⟨h7, hb⟩)
      have hvl := Lib.hid (fun k hk => (hIn.out.1 k hk).2)
      have R2 := Lib.hid (OwR.of ho2)
      replace hC3 := Lib.hid hC3
      clear hg3 hIn hown hC hg ho2 hBd hb
      go_wp2_with (at_builtin; go_loud (refine wpList_append_rd _ rfl (.tmp 15) (.tmp 19) 25 rfl w.heap.size 61 i0 (.agg #[.slice none 0 0]) 1 24 Try.underlying25 hi hz0 hz1 hz2 rfl (by decide) _ T.length (eC T) rfl (O2.out.alloc _) _ 1 1 rfl (Nat.le_refl _) (by intro h; cases h) (eC [(⟨0, 0, u, c, E⟩ : PR)]) rfl (Rd.oneEd _ _ _ _ _ _ (by simp)) (eC_one _) (by unfold maxLen; omega) (by omega) (by simp; omega) ?_); intro v3 w3 hown3 hgrow3 hwhere3)
      have hlow := Lib.hid O2.out.lt
      have hgr : (w2.alloc (.cells #[.slice u E.length c] 61)).grownBy w3 (Value.ownBlock (.slice vx T.length vc)) := hgrow3
      have hs3 : w2.heap.size + 1 ≤ w3.heap.size := by have := hgr.size; simp at this; omega
      have G3 := Lib.hid (grown_far (grown_alloc G2.out _) hgr (fun j hj => (hlow.out j hj).1))
      have C3 := Lib.hid ((hC3.out.alloc _).far hgr (fun j hj => by have := (hlow.out j hj).1; omega))
      have B2 : Below w2.heap.size w2 (w2.alloc (.cells #[.slice u E.length c] 61)) := (Below.refl _ _).alloc (Nat.le_refl _) _
      have hsn := (I2.out.below B2).snoc (q := ⟨0, 0, u, c, E⟩) (R2.out.rd.below B2) (by show E.length ≤ 1048576; omega) (fun b off e => by
          have h1 := R2.out.inr b off e
          refine ⟨by omega, by simp; omega, ?_⟩
          intro e2
          have := hvl.out b e2
          omega)
      have hown4 := Lib.hid (own_eq hown3 (show T.length + 1 = (T ++ [(⟨0, 0, u, c, E⟩ : PR)]).length by simp) (show eC T ++ eC [(⟨0, 0, u, c, E⟩ : PR)] = eC (T ++ [(⟨0, 0, u, c, E⟩ : PR)]) by unfold eC; rw [List.map_append]))
      obtain ⟨g3, vc3, rfl⟩ := own_some hown3 (by omega)
      have I3 := Lib.hid (hsn.row hgr hwhere3 (fun k hk => by injection hk with hk; subst hk; exact (own_lt hown3).2) (by simp; omega))
      clear hgrow3 hwhere3 hown3 hgr B2 hsn hC3 O2 I2 hvl R2 hlow
      go_wp2
      go_roundw
      case rel => exact ⟨i, k2, T ++ [(⟨0, 0, u, c, E⟩ : PR)], by omega, by simp; omega, by omega, by omega, by go_num, hown4.out, hq.out, I3.out, C3.out, G3.out⟩
      case measure => simp [intOf]
    · have hj0 : j = 0 := by omega
      subst hj0
      go_wp2_with fail
      refine (one_any b x n cap kk 40 wr (by omega) (by omega) (by omega) hC.out (hB2.out.grown hg.out hap.out)).mono ?_
      rintro e w4 ⟨t4, k4, rfl, ke, kf, hC4, hg4⟩
      have G4 := Lib.hid (grown_trans hg.out hg4)
      have O4 := Lib.hid (own_cur2 hown.out (by omega) hg4)
      have I4 := Lib.hid (hIn.out.curE hg4 (by omega))
      have hs4 := hg4.size
      replace hC4 := Lib.hid hC4
      clear hg4 hIn hown hC hg
      cases t4
      · go_wp2
        go_ret
        exact ⟨T, _, k4, rfl, hBd.out, by omega, by omega, by omega, O4.out, I4.out, hC4.out, G4.out⟩
      · go_wp2_with fail
        refine (hAE.out k4 w4 (by omega) hC4.out (hB2.out.grown G4.out hap.out) (hS2.out.keepC G4.out hy2.out) hy2.out).mono ?_
        rintro e w5 ⟨E, u, c, k5, rfl, h1, h7, hb, kc, kd, ho5, hC5, hg5⟩
        obtain ⟨u', c', he, hcap, hnil⟩ := (OwR.of ho5).form
        injection he with e1 _ e2
        subst e1 e2
        have G5 := Lib.hid (grown_trans G4.out hg5)
        have O5 := Lib.hid (own_cur2 O4.out (by omega) hg5)
        have I5 := Lib.hid (I4.out.curE hg5 (by omega))
        have hs5 := hg5.size
        have R5 := Lib.hid ho5
        have V5 := Lib.hid (Wb.new w5 61 #[.slice u E.length c])
        have hvl := Lib.hid (fun k hk => (I4.out.1 k hk).2)
        have B5 : Below w5.heap.size w5 (w5.alloc (.cells #[.slice u E.length c] 61)) := (Below.refl _ _).alloc (Nat.le_refl _) _
        have O6 := Lib.hid (O5.out.alloc (.cells #[.slice u E.length c] 61))
        have I6 := Lib.hid (I5.out.below B5)
        have R6 := Lib.hid (R5.out.alloc (.cells #[.slice u E.length c] 61))
        have G6 := Lib.hid (grown_alloc G5.out (.cells #[.slice u E.length c] 61))
        have C6 := Lib.hid (hC5.alloc (.cells #[.slice u E.length c] 61))
        have hbh := Lib.hid hb
        have hnilh := Lib.hid hnil
        clear hg5 ho5 hC5 O4 I4 hC4 G4 O5 I5 R5 G5 hb hnil
        go_wp2_with fail
        refine (pick_any b x n cap k5 2 _ (by omega) (by omega) (by omega) C6.out (hB2.out.grown G6.out hap.out)).mono ?_
        rintro e w7 ⟨m7, k7, rfl, p0, p1, kg, kh, hC7, hg7⟩
        obtain ⟨m, rfl⟩ := Int.eq_ofNat_of_zero_le p0
        have hs7 : w5.heap.size + 1 ≤ w7.heap.size := by have := hg7.size; simp at this; omega
        have G7 := Lib.hid (grown_trans G6.out hg7)
        have O7 := Lib.hid (own_cur2 O6.out (by omega) hg7)
        have I7 := Lib.hid (I6.out.curE hg7 (by omega))
        have R7 := Lib.hid (own_cur2 R6.out (by omega) hg7)
        have V7 := Lib.hid (wb_grownD V5.out hg7 (by intro e; injection e with e; omega))
        have hne7 := Lib.hid (show ∀ k, (Value.slice vx T.length vc).ownBlock = some k → k ≠ w5.heap.size from fun k hk => by have := hvl.out k hk; omega)
        replace hC7 := Lib.hid hC7
        clear hg7 O6 I6 R6 G6 C6 V5 B5 hvl
        go_wp2
        go_loopw [5] (fun v wr => ∃ (T' : List PR), T'.length ≤ 41 ∧ wr.ownsRow w.heap.size 61 1 v T'.length (eC T') ∧ Hid (DrE T') ∧ Hid (InsW wr w.heap.size v T') ∧ Hid (CurAt wr b x n cap k7) ∧ Hid (w.grownBy wr (some b)) ∧ Hid (wr.ownsRow w4.heap.size 3 1 (.slice u E.length c) E.length (iC E)) ∧ Hid (Wb wr w5.heap.size 61 #[.slice u E.length c]) ∧ Hid (∀ k, v.ownBlock = some k → k ≠ w5.heap.size) ∧ w5.heap.size + 1 ≤ wr.heap.size) (fun v _ => match v with | .slice _ l _ => 41 - l | _ => 0)
        case atStart => exact ⟨T, by omega, O7.out, hBd.out, I7.out, hC7.out, G7.out, R7.out, V7.out, hne7.out, hs7⟩
        case round =>
          clear O7 I7 R7 V7 G7 hC7 hne7 hs7 hBd
          obtain ⟨T', hTl', hown, hBd, hIn, hC, hg, hR, hV, hne, hwr⟩ := hrel
          have hbr := hC.out.inside
          have hws := hg.out.size
          obtain ⟨xl, cl, rfl, -, -⟩ := (OwR.of hown).form
          replace hown := Lib.hid hown
          have v0 := hV.out.read 0
          by_cases hlt2 : (T'.length : Int) < 40 + (m : Int)
          · have hTn : T'.length ≤ 40 := by omega
            go_wp2_with fail
            refine (l1Own_any u c E _ (by omega) hcap hnilh.out (Rd.of_own hR.out)).mono ?_
            rintro e w8 ⟨u8, rfl, ho8, hb8⟩
            obtain ⟨x8, c8, rfl, -, -⟩ := (OwR.of ho8).form
            have G8 := Lib.hid (grown_trans hg.out (grown_of_below hb8 b))
            have O8 := Lib.hid (own_below hown.out hb8)
            have I8 := Lib.hid (hIn.out.below hb8)
            have hs8 := hb8.size
            have C8 := Lib.hid (CurAt.far hC.out (r := none) ⟨hb8.os, hb8.tape, hb8.output, hb8.size, fun k hk _ => hb8.block k hk⟩ (by intro j hj; cases hj))
            have R8 := Lib.hid (own_below hR.out hb8)
            have V8 := Lib.hid (hV.out.kept hb8)
            have hq := Lib.hid (show DrE (T' ++ [(⟨0, 0, x8, c8, E⟩ : PR)]) from hBd.out.snoc ⟨h7, hbh.out⟩)
            have hvl := Lib.hid (fun k hk => (hIn.out.1 k hk).2)
            have N8 := Lib.hid (OwR.of ho8)
            clear hg hown hIn hC hR hV hBd ho8 v0
            go_wp2_with (at_builtin; go_loud (refine wpList_append_rd _ rfl (.tmp 33) (.tmp 38) 25 rfl w.heap.size 61 i0 (.agg #[.slice none 0 0]) 1 24 Try.underlying25 hi hz0 hz1 hz2 rfl (by decide) _ T'.length (eC T') rfl (O8.out.alloc _) _ 1 1 rfl (Nat.le_refl _) (by intro h; cases h) (eC [(⟨0, 0, x8, c8, E⟩ : PR)]) rfl (Rd.oneEd _ _ _ _ _ _ (by simp)) (eC_one _) (by unfold maxLen; omega) (by omega) (by simp; omega) ?_); intro v9 w9 hown9 hgrow9 hwhere9)
            have hlow := Lib.hid O8.out.lt
            have hgr : (w8.alloc (.cells #[.slice x8 E.length c8] 61)).grownBy w9 (Value.ownBlock (.slice xl T'.length cl)) := hgrow9
            have hs9 : w8.heap.size + 1 ≤ w9.heap.size := by have := hgr.size; simp at this; omega
            have G9 := Lib.hid (grown_far (grown_alloc G8.out _) hgr (fun j hj => (hlow.out j hj).1))
            have C9 := Lib.hid ((C8.out.alloc _).far hgr (fun j hj => by have := (hlow.out j hj).1; omega))
            have B8 : Below w8.heap.size w8 (w8.alloc (.cells #[.slice x8 E.length c8] 61)) := (Below.refl _ _).alloc (Nat.le_refl _) _
            have R9 := Lib.hid ((R8.out.alloc (.cells #[.slice x8 E.length c8] 61)).kept hgr (rows_apartE R8.out O8.out (by decide)))
            have V9 := Lib.hid (wb_grownD (V8.out.kept B8) hgr (fun e => hne.out _ e rfl))
            have hsn := (I8.out.below B8).snoc (q := ⟨0, 0, x8, c8, E⟩) (N8.out.rd.below B8) (by show E.length ≤ 1048576; omega) (fun b off e => by
                have h1 := N8.out.inr b off e
                refine ⟨by omega, by simp; omega, ?_⟩
                intro e2
                have := hvl.out b e2
                omega)
            have hown10 := Lib.hid (own_eq hown9 (show T'.length + 1 = (T' ++ [(⟨0, 0, x8, c8, E⟩ : PR)]).length by simp) (show eC T' ++ eC [(⟨0, 0, x8, c8, E⟩ : PR)] = eC (T' ++ [(⟨0, 0, x8, c8, E⟩ : PR)]) by unfold eC; rw [List.map_append]))
            obtain ⟨g9, vc9, rfl⟩ := own_some hown9 (by omega)
            have I9 := Lib.hid (hsn.row hgr hwhere9 (fun k hk => by injection hk with hk; subst hk; exact (own_lt hown9).2) (by simp; omega))
            have hne9 := Lib.hid (show ∀ k, (Value.slice (some ⟨g9, 0, none⟩) (T'.length + 1) vc9).ownBlock = some k → k ≠ w5.heap.size from fun k hk => by
              rcases hwhere9 with h | h
              · exact hne.out k (h.symm.trans hk)
              · have e2 := h.symm.trans hk
                injection e2 with e2
                simp at e2
                omega)
            clear hgrow9 hwhere9 hown9 hgr B8 hsn C8 O8 I8 hvl R8 V8 N8 hlow hne
            go_wp2
            go_roundw
            case rel => exact ⟨T' ++ [(⟨0, 0, x8, c8, E⟩ : PR)], by simp; omega, hown10.out, hq.out, I9.out, C9.out, G9.out, R9.out, V9.out, hne9.out, by omega⟩
            case measure => simp; omega
          · go_wp2
            go_ret
            exact ⟨T', _, k7, rfl, hBd.out, by omega, by omega, by omega, hown.out, hIn.out, hC.out, hg.out⟩
end Go.Proofs.Ytjbhmofaackjpaa
