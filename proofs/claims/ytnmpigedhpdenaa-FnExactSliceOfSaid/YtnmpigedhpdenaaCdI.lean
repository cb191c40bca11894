/-
  The walks of chapter 10: the difference of two cubes; the program's.
-/
import Derived.Test.YtnmpigedhpdenaaCbZ
namespace Go.Proofs.Ytnmpigedhpdenaa
open Go.RowKit
set_option maxRecDepth 100000

/-- A cube's box and its two rows, all the call's own. -/
def CuL (s : Value) (R : List Int × List Int) (lo : Nat) (wx : World) : Prop :=
  ∃ g x c z d, s = .pointer (some ⟨g, 0, none⟩) ∧ Wb wx g 27 #[.slice x R.1.length c, .slice z R.2.length d] ∧ lo ≤ g ∧ wx.ownsRow lo 3 1 (.slice x R.1.length c) R.1.length (iC R.1) ∧ wx.ownsRow lo 3 1 (.slice z R.2.length d) R.2.length (iC R.2) ∧
    (∀ k, (Value.slice x R.1.length c).ownBlock = some k → (Value.slice z R.2.length d).ownBlock ≠ some k)
theorem OwR.asideU {w : World} {lo hi size n : Nat} {e : TypeId} {u : Value} {xs : List Value} (h : OwR w lo hi e size u n xs) (p : Addr) (v : Value) (hp : p.block < lo ∨ hi ≤ p.block) : OwR (w.setCell p v) lo hi e size u n xs :=
  h.keep (grown_setU w p v) (fun k hk => by obtain rfl := Option.some.inj hk; exact hp)
theorem cuL_mk {W : World} {lo g a b a2 b2 : Nat} {x z : Option Addr} {c d : Nat} {Y A : List Int} (bx : Wb W g 27 #[.slice x Y.length c, .slice z A.length d]) (hg : lo ≤ g) (hS : OwR W a b 3 1 (.slice x Y.length c) Y.length (iC Y)) (hC : OwR W a2 b2 3 1 (.slice z A.length d) A.length (iC A)) (h1 : lo ≤ a) (h2 : lo ≤ a2) (h3 : b ≤ a2 ∨ b2 ≤ a) :
    CuL (.pointer (some ⟨g, 0, none⟩)) (Y, A) lo W :=
  ⟨g, x, c, z, d, rfl, bx, hg, own_more hS.1 h1, own_more hC.1 h2, fun k hk e => by have := hS.2 k hk; have := hC.2 k e; omega⟩
theorem own_base {w : World} {base e size n : Nat} {v : Value} {xs : List Value} {g : Nat} (h : w.ownsRow base e size v n xs) (hg : v.ownBlock = some g) : w.ownsRow g e size v n xs := by
  refine ⟨h.1, ?_⟩
  rcases h.2 with ⟨rfl, _⟩ | ⟨g', cap, cur, rfl, hb, r⟩
  · cases hg
  · obtain rfl : g' = g := by simpa [Value.ownBlock] using hg
    exact .inr ⟨g', cap, cur, rfl, Nat.le_refl _, r⟩
theorem own_one {w : World} {lo e size n : Nat} {v : Value} {xs : List Value} (h : w.ownsRow lo e size v n xs) : ∃ a b, lo ≤ a ∧ b ≤ max lo w.heap.size ∧ a ≤ b ∧ OwR w a b e size v n xs ∧ ((v.ownBlock = none ∧ a = lo ∧ b = lo) ∨ (v.ownBlock = some a ∧ b = a + 1)) := by
  cases hv : v.ownBlock with
  | none => exact ⟨lo, lo, Nat.le_refl _, Nat.le_max_left _ _, Nat.le_refl _, ⟨h, fun k hk => by rw [hv] at hk; cases hk⟩, .inl ⟨rfl, rfl, rfl⟩⟩
  | some g =>
    have h1 := h.lt g hv
    exact ⟨g, g + 1, h1.1, by omega, by omega, ⟨own_base h hv, fun k hk => by rw [hv] at hk; cases hk; omega⟩, .inr ⟨rfl, rfl⟩⟩
/-- Rows in different blocks lie apart. -/
theorem owU_of {w : World} {lo : Nat} {u v : Value} {F W : List Int} (hl : lo ≤ w.heap.size) (h : w.ownsRow lo 3 1 u F.length (iC F)) (k : w.ownsRow lo 3 1 v W.length (iC W)) (hne : ∀ q, u.ownBlock = some q → v.ownBlock ≠ some q) : OwU w lo w.heap.size u v F W := by
  obtain ⟨a, b, h1, h2, h3, h4, h5⟩ := own_one h
  obtain ⟨a2, b2, k1, k2, k3, k4, k5⟩ := own_one k
  rw [Nat.max_eq_right hl] at h2 k2
  refine ⟨a, b, a2, b2, h1, h2, k1, k2, ?_, h4, k4⟩
  rcases h5 with ⟨_, rfl, rfl⟩ | ⟨e1, rfl⟩
  · exact .inl k1
  · rcases k5 with ⟨_, rfl, rfl⟩ | ⟨e2, rfl⟩
    · exact .inr h1
    · have := hne a e1
      rw [e2] at this
      have : a2 ≠ a := fun e => this (by rw [e])
      omega
theorem own_ne_lt {w : World} {lo e size n g : Nat} {v : Value} {xs : List Value} (h : w.ownsRow lo e size v n xs) (hg : g < lo) : v.ownBlock = none ∨ v.ownBlock ≠ some g := by
  cases hv : v.ownBlock with
  | none => exact .inl rfl
  | some q => exact .inr (fun e => by have := (h.lt q hv).1; injection e with e; omega)
/-- Three blocks at the beginning of a call: two cubes and a result. -/
def Tri3 (W : World) (g : Nat) (x : Option Addr) (n c : Nat) (y : Option Addr) (k d : Nat) (x2 : Option Addr) (n2 c2 : Nat) (y2 : Option Addr) (k2 d2 : Nat) : Prop :=
  CQ W g x n c y k d ∧ CQ W (g + 1) x2 n2 c2 y2 k2 d2 ∧ Wb W (g + 1 + 1) 27 #[.slice none 0 0, .slice none 0 0]
theorem Tri3.below {W W' : World} {g : Nat} {x : Option Addr} {n c : Nat} {y : Option Addr} {k d : Nat} {x2 : Option Addr} {n2 c2 : Nat} {y2 : Option Addr} {k2 d2 : Nat} (h : Tri3 W g x n c y k d x2 n2 c2 y2 k2 d2) (hb : Below W.heap.size W W') : Tri3 W' g x n c y k d x2 n2 c2 y2 k2 d2 := ⟨h.1.below hb, h.2.1.below hb, h.2.2.kept hb⟩
theorem Tri3.new (w : World) (x : Option Addr) (n c : Nat) (y : Option Addr) (k d : Nat) (x2 : Option Addr) (n2 c2 : Nat) (y2 : Option Addr) (k2 d2 : Nat) :
    Tri3 (((w.alloc (.cells #[.slice x n c, .slice y k d] 27)).alloc (.cells #[.slice x2 n2 c2, .slice y2 k2 d2] 27)).alloc (.cells #[.slice none 0 0, .slice none 0 0] 27)) w.heap.size x n c y k d x2 n2 c2 y2 k2 d2 := by
  refine ⟨(CQ.new w x n c y k d 27).below (by repeat (first | exact Below.refl _ _ | assumption | refine Below.drew ?_ | refine below_drewN ?_ _ | refine Below.alloc' ?_ _ | (refine Below.setCell ?_ (by first | omega | (simp; done) | (simp; omega) | exact Below.size (by assumption) | exact Nat.le_trans (Below.size (by assumption)) (by simp)) _) | (refine Below.via' ?_ (by assumption)) | (refine Below.alloc ?_ (by first | omega | (simp; done) | (simp; omega) | exact Below.size (by assumption) | exact Nat.le_trans (Below.size (by assumption)) (by simp)) _) | (refine Below.via ?_ (by assumption) (by first | omega | (simp; done) | (simp; omega) | exact Below.size (by assumption) | exact Nat.le_trans (Below.size (by assumption)) (by simp))))), ?_, ?_⟩
  · have h := (CQ.new (w.alloc (.cells #[.slice x n c, .slice y k d] 27)) x2 n2 c2 y2 k2 d2 27).below (w' := ((w.alloc (.cells #[.slice x n c, .slice y k d] 27)).alloc (.cells #[.slice x2 n2 c2, .slice y2 k2 d2] 27)).alloc (.cells #[.slice none 0 0, .slice none 0 0] 27)) (by repeat (first | exact Below.refl _ _ | assumption | refine Below.drew ?_ | refine below_drewN ?_ _ | refine Below.alloc' ?_ _ | (refine Below.setCell ?_ (by first | omega | (simp; done) | (simp; omega) | exact Below.size (by assumption) | exact Nat.le_trans (Below.size (by assumption)) (by simp)) _) | (refine Below.via' ?_ (by assumption)) | (refine Below.alloc ?_ (by first | omega | (simp; done) | (simp; omega) | exact Below.size (by assumption) | exact Nat.le_trans (Below.size (by assumption)) (by simp)) _) | (refine Below.via ?_ (by assumption) (by first | omega | (simp; done) | (simp; omega) | exact Below.size (by assumption) | exact Nat.le_trans (Below.size (by assumption)) (by simp)))))
    rwa [World.size_alloc] at h
  · have h := Wb.new ((w.alloc (.cells #[.slice x n c, .slice y k d] 27)).alloc (.cells #[.slice x2 n2 c2, .slice y2 k2 d2] 27)) 27 #[.slice none 0 0, .slice none 0 0]
    rwa [World.size_alloc, World.size_alloc] at h
set_option maxHeartbeats 16000000 in
theorem iDi_any (x y x2 y2 : Option Addr) (c d c2 d2 : Nat) (Y A Z B : List Int) (w : World) (h : CIn w x y Y A) (k : CIn w x2 y2 Z B) (hcY : Y.length ≤ c) (hnY : x = none → c = 0) (hcA : A.length ≤ d) (hnA : y = none → d = 0) :
    Calls Try.prog 40 #[.agg #[.slice x Y.length c, .slice y A.length d], .agg #[.slice x2 Z.length c2, .slice y2 B.length d2]] w (RetCu (dqR Y A Z B) (dqB Y A Z B) w) := by
  have hmY := h.1.1
  have hmA := h.2.1
  have hh := Lib.hid h
  have hk := Lib.hid k
  clear h k
  have t0n := Tri3.new w x Y.length c y A.length d x2 Z.length c2 y2 B.length d2
  obtain ⟨w0, hw0⟩ : ∃ w0, w0 = ((w.alloc (.cells #[.slice x Y.length c, .slice y A.length d] 27)).alloc (.cells #[.slice x2 Z.length c2, .slice y2 B.length d2] 27)).alloc (.cells #[.slice none 0 0, .slice none 0 0] 27) := ⟨_, rfl⟩
  have B0 : Below w.heap.size w w0 := by rw [hw0]; exact (by repeat (first | exact Below.refl _ _ | assumption | refine Below.drew ?_ | refine below_drewN ?_ _ | refine Below.alloc' ?_ _ | (refine Below.setCell ?_ (by first | omega | (simp; done) | (simp; omega) | exact Below.size (by assumption) | exact Nat.le_trans (Below.size (by assumption)) (by simp)) _) | (refine Below.via' ?_ (by assumption)) | (refine Below.alloc ?_ (by first | omega | (simp; done) | (simp; omega) | exact Below.size (by assumption) | exact Nat.le_trans (Below.size (by assumption)) (by simp)) _) | (refine Below.via ?_ (by assumption) (by first | omega | (simp; done) | (simp; omega) | exact Below.size (by assumption) | exact Nat.le_trans (Below.size (by assumption)) (by simp)))))
  rw [← hw0] at t0n
  have t0 := Lib.hid t0n
  clear t0n
  go_enter Try.func40, Try.ntmps40
  go_wp2_with fail
  rw [← hw0]
  replace hw0 := Lib.hid hw0
  refine (iCu_any _ _ _ _ Y A _ (hh.out.below B0)).mono ?_
  rintro e w1 ⟨rfl, hb1⟩
  have B1 : Below w.heap.size w w1 := Below.via' B0 hb1
  have t1 := Lib.hid (t0.out.below hb1)
  try clear a0a a0b a0c b0a b0b b0c z0a z0b z0c z0d z0e
  clear hb1
  obtain ⟨⟨a1a, a1b, a1c⟩, ⟨b1a, b1b, b1c⟩, zz1⟩ := t1.out
  have z1a := (zz1.read 0).trans rfl
  have z1b := (zz1.read 1).trans rfl
  have z1c := zz1.free 0
  have z1d := zz1.free 1
  have z1e := zz1.inside
  clear zz1
  cases hg1 : cgB Y A
  · have hv := Lib.hid (dq_no (dq_no1 Z B hg1))
    clear hg1
    go_wp2
    refine bodyPost_ret (v := .tuple #[.agg #[.slice none 0 0, .slice none 0 0], .bool false]) (by simp [results, Try.results40, go_sem, *]) rfl (retCu_no hv.out.1 hv.out.2 ?_)
    repeat (refine Below.setCell ?_ (by simp; try omega) _)
    exact B1
  have hg1h := Lib.hid hg1
  clear hg1
  go_wp2_with fail
  refine (iCu_any _ _ _ _ Z B _ (hk.out.below B1)).mono ?_
  rintro e w2 ⟨rfl, hb2⟩
  have B2 : Below w.heap.size w w2 := Below.via' B1 hb2
  have t2 := Lib.hid (t1.out.below hb2)
  try clear a1a a1b a1c b1a b1b b1c z1a z1b z1c z1d z1e
  clear hb2
  obtain ⟨⟨a2a, a2b, a2c⟩, ⟨b2a, b2b, b2c⟩, zz2⟩ := t2.out
  have z2a := (zz2.read 0).trans rfl
  have z2b := (zz2.read 1).trans rfl
  have z2c := zz2.free 0
  have z2d := zz2.free 1
  have z2e := zz2.inside
  clear zz2
  cases hg2 : cgB Z B
  · have hv := Lib.hid (dq_no (dq_no2 Y A hg2))
    clear hg2
    go_wp2
    refine bodyPost_ret (v := .tuple #[.agg #[.slice none 0 0, .slice none 0 0], .bool false]) (by simp [results, Try.results40, go_sem, *]) rfl (retCu_no hv.out.1 hv.out.2 ?_)
    repeat (refine Below.setCell ?_ (by simp; try omega) _)
    exact B2
  have hg2h := Lib.hid hg2
  clear hg2
  go_wp2_with fail
  refine (equalI_any _ _ _ _ Y Z _ hmY (hh.out.1.2.2.below B2) (hk.out.1.2.2.below B2)).mono ?_
  rintro e w3 ⟨rfl, hb3⟩
  have B3 : Below w.heap.size w w3 := Below.via' B2 hb3
  have t3 := Lib.hid (t2.out.below hb3)
  try clear a2a a2b a2c b2a b2b b2c z2a z2b z2c z2d z2e
  clear hb3
  obtain ⟨⟨a3a, a3b, a3c⟩, ⟨b3a, b3b, b3c⟩, zz3⟩ := t3.out
  have z3a := (zz3.read 0).trans rfl
  have z3b := (zz3.read 1).trans rfl
  have z3c := zz3.free 0
  have z3d := zz3.free 1
  have z3e := zz3.inside
  clear zz3
  cases hg3 : sqB Y Z
  · have hv := Lib.hid (dq_no (dq_no3 A B hg3))
    clear hg3
    go_wp2
    refine bodyPost_ret (v := .tuple #[.agg #[.slice none 0 0, .slice none 0 0], .bool false]) (by simp [results, Try.results40, go_sem, *]) rfl (retCu_no hv.out.1 hv.out.2 ?_)
    repeat (refine Below.setCell ?_ (by simp; try omega) _)
    exact B3
  have hg3h := Lib.hid hg3
  have hl := dq_len hg1h.out hg2h.out hg3
  have hlh := Lib.hid hl
  have hA2 : A.length ≤ 2000 := cf_len (cg_get hg1h.out).1
  have hbA := Lib.hid (fun j a (hj : A[j]? = some a) => inR_at (cf_get (cg_get hg1h.out).1).2.2 hj)
  have hbB := Lib.hid (fun j a (hj : B[j]? = some a) => inR_at (cf_get (cg_get hg2h.out).1).2.2 hj)
  clear hg3 hl
  have hw3 := z3e
  go_upto_region 3 with fail
  go_cut [6] (fun s6 wx => CuL s6 (Y, A) w3.heap.size wx ∧ Below w3.heap.size w3 wx)
  case first =>
      refine wp_region_held_drew (S := fun X => Below w3.heap.size w3 X) (by kernel_rfl) (Below.drew (Below.refl _ _)) (fun hH => ?_)
      refine wpAnyH_take (i := 0) (v := ?_) rfl (by kernel_rfl) (by kernel_rfl) (by kernel_rfl) (fun _ _ _ h => h) (Or.inl ⟨by rfl, ?_⟩) (by assumption) ?_; rotate_left; · (intro wz hz; (skip); clear hz; go_simp; try with_reducible rfl); (try simp only [Act.put, List.getElem_toArray, List.getElem_cons_succ, List.getElem_cons_zero, List.setIfInBounds_toArray, List.set_cons_zero, List.set_cons_succ])
      refine wpAnyH_take (i := 1) (v := ?_) rfl (by kernel_rfl) (by kernel_rfl) (by kernel_rfl) (fun _ _ _ h => h) (Or.inl ⟨by rfl, ?_⟩) (by assumption) ?_; rotate_left; · (intro wz hz; ((have f0 := (hz.cell (p := ⟨w.heap.size, 0, none⟩) a3c).trans a3a)); clear hz; go_simp; try with_reducible rfl); (try simp only [Act.put, List.getElem_toArray, List.getElem_cons_succ, List.getElem_cons_zero, List.setIfInBounds_toArray, List.set_cons_zero, List.set_cons_succ])
      refine wpAnyH_take (i := 3) (v := ?_) rfl (by kernel_rfl) (by kernel_rfl) (by kernel_rfl) (fun _ _ _ h => h) (Or.inl ⟨by rfl, ?_⟩) (by assumption) ?_; rotate_left; · (intro wz hz; (skip); clear hz; go_simp; try with_reducible rfl); (try simp only [Act.put, List.getElem_toArray, List.getElem_cons_succ, List.getElem_cons_zero, List.setIfInBounds_toArray, List.set_cons_zero, List.set_cons_succ])
      refine wpAnyH_take (i := 4) (v := ?_) rfl (by kernel_rfl) (by kernel_rfl) (by kernel_rfl) (fun _ _ _ h => h) (Or.inl ⟨by rfl, ?_⟩) (by assumption) ?_; rotate_left; · (intro wz hz; ((have f1 := (hz.cell (p := ⟨w.heap.size, 1, none⟩) a3c).trans a3b)); clear hz; go_simp; try with_reducible rfl); (try simp only [Act.put, List.getElem_toArray, List.getElem_cons_succ, List.getElem_cons_zero, List.setIfInBounds_toArray, List.set_cons_zero, List.set_cons_succ])
      clear a3a a3b b3a b3b z3a z3b z3c z3d
      replace hH := Lib.hid hH
      refine wpAnyH_ready (rs := [2, 7]) (by kernel_rfl) (by simp) (AllReadyH.cons rfl (fun K hK => ?_) (AllReadyH.cons rfl (fun K hK => ?_) AllReadyH.nil))
      go_simp
      refine (cloneInt_any x c Y _ hmY hcY hnY (hh.out.1.2.2.below (Below.via' B3 hH.out))).mono ?_
      rintro e wS ⟨uS, rfl, hoS, hbS⟩
      have hOS := Lib.hid (OwR.of hoS)
      obtain ⟨xS, cS, rfl, -, -⟩ := hOS.out.form
      clear hoS
      have hS1 := Lib.hid (Below.via' hH.out hbS)
      refine hK.out _ _ hS1.out (fun _ => ?_)
      clear hK K
      (try simp only [Act.put, List.getElem_toArray, List.getElem_cons_succ, List.getElem_cons_zero, List.setIfInBounds_toArray, List.set_cons_zero, List.set_cons_succ])
      refine wpAnyH_ready (rs := [5, 7]) (by kernel_rfl) (by simp) (AllReadyH.cons rfl (fun K hK => ?_) (AllReadyH.cons rfl (fun K hK => ?_) AllReadyH.nil))
      go_simp
      refine (cloneInt_any y d A _ hmA hcA hnA (hh.out.2.2.2.below (Below.via' B3 hS1.out))).mono ?_
      rintro e wC ⟨uC, rfl, hoC, hbC⟩
      have hOC := Lib.hid (OwR.of hoC)
      obtain ⟨xC, cC, rfl, -, -⟩ := hOC.out.form
      clear hoC
      have hC1 := Lib.hid (Below.via' hS1.out hbC)
      refine hK.out _ _ hC1.out (fun _ => ?_)
      clear hK K
      (try simp only [Act.put, List.getElem_toArray, List.getElem_cons_succ, List.getElem_cons_zero, List.setIfInBounds_toArray, List.set_cons_zero, List.set_cons_succ])
      refine wpAnyH_take (i := 6) (v := ?_) rfl (by kernel_rfl) (by kernel_rfl) (by kernel_rfl) (fun _ _ _ h => h) (Or.inl ⟨by rfl, ?_⟩) (by assumption) ?_; rotate_left; · (intro wz hz; (skip); clear hz; go_simp; try with_reducible rfl); (try simp only [Act.put, List.getElem_toArray, List.getElem_cons_succ, List.getElem_cons_zero, List.setIfInBounds_toArray, List.set_cons_zero, List.set_cons_succ])
      refine wpAnyH_ready (rs := [7]) (by kernel_rfl) (by simp) (AllReadyH.cons rfl (fun K hK => ?_) AllReadyH.nil)
      go_simp
      have bx := Lib.hid (show Wb ((wC).alloc (.cells #[.slice none 0 0, .slice none 0 0] 27)) (wC.heap.size) 27 #[.slice none 0 0, .slice none 0 0] from Wb.new (wC) 27 #[.slice none 0 0, .slice none 0 0])
      have ga0 := hC1.out.size
      have hA1 := Lib.hid (Below.alloc' hC1.out (.cells #[.slice none 0 0, .slice none 0 0] 27))
      refine hK.out _ _ hA1.out (fun _ => ?_)
      clear hK K
      (try simp only [Act.put, List.getElem_toArray, List.getElem_cons_succ, List.getElem_cons_zero, List.setIfInBounds_toArray, List.set_cons_zero, List.set_cons_succ])
      refine wpAnyH_ready (rs := [8]) (by kernel_rfl) (by simp) (AllReadyH.cons rfl (fun K hK => ?_) AllReadyH.nil); go_simp
      have hst := Below.alloc' hC1.out (.cells #[.slice xS Y.length cS, .slice xC A.length cC] 27)
      have sC := hbC.size
      have sS := hS1.out.size
      have hat := cuL_mk (lo := w3.heap.size) (Wb.new wC 27 #[.slice xS Y.length cS, .slice xC A.length cC]) (by omega) ((hOS.out.below hbC).below (Below.alloc' (Below.refl _ _) _)) (hOC.out.below (Below.alloc' (Below.refl _ _) _)) (Nat.le_refl _) sS (Or.inl (Nat.le_refl _))
      refine hK.out _ _ hst (fun _ => ?_)
      clear hK K
      (try simp only [Act.put, List.getElem_toArray, List.getElem_cons_succ, List.getElem_cons_zero, List.setIfInBounds_toArray, List.set_cons_zero, List.set_cons_succ])
      refine wpAnyH_done (by kernel_rfl) ?_ _
      go_wp2_with fail
      go_meet
      exact ⟨hat, hst⟩
      go_simp
      have bx := Lib.hid (show Wb ((wS).alloc (.cells #[.slice none 0 0, .slice none 0 0] 27)) (wS.heap.size) 27 #[.slice none 0 0, .slice none 0 0] from Wb.new (wS) 27 #[.slice none 0 0, .slice none 0 0])
      have ga0 := hS1.out.size
      have hA1 := Lib.hid (Below.alloc' hS1.out (.cells #[.slice none 0 0, .slice none 0 0] 27))
      refine hK.out _ _ hA1.out (fun _ => ?_)
      clear hK K
      (try simp only [Act.put, List.getElem_toArray, List.getElem_cons_succ, List.getElem_cons_zero, List.setIfInBounds_toArray, List.set_cons_zero, List.set_cons_succ])
      refine wpAnyH_ready (rs := [5]) (by kernel_rfl) (by simp) (AllReadyH.cons rfl (fun K hK => ?_) AllReadyH.nil)
      go_simp
      refine (cloneInt_any y d A _ hmA hcA hnA (hh.out.2.2.2.below (Below.via' B3 hA1.out))).mono ?_
      rintro e wC ⟨uC, rfl, hoC, hbC⟩
      have hOC := Lib.hid (OwR.of hoC)
      obtain ⟨xC, cC, rfl, -, -⟩ := hOC.out.form
      clear hoC
      have hC1 := Lib.hid (Below.via' hA1.out hbC)
      refine hK.out _ _ hC1.out (fun _ => ?_)
      clear hK K
      (try simp only [Act.put, List.getElem_toArray, List.getElem_cons_succ, List.getElem_cons_zero, List.setIfInBounds_toArray, List.set_cons_zero, List.set_cons_succ])
      refine wpAnyH_take (i := 6) (v := ?_) rfl (by kernel_rfl) (by kernel_rfl) (by kernel_rfl) (fun _ _ _ h => h) (Or.inl ⟨by rfl, ?_⟩) (by assumption) ?_; rotate_left; · (intro wz hz; (skip); clear hz; go_simp; try with_reducible rfl); (try simp only [Act.put, List.getElem_toArray, List.getElem_cons_succ, List.getElem_cons_zero, List.setIfInBounds_toArray, List.set_cons_zero, List.set_cons_succ])
      have bx2 := Lib.hid (bx.out.kept hbC)
      have ya : wC.cell? ⟨_, 0, none⟩ = some (.slice none 0 0) := (bx2.out.read 0).trans rfl
      have yb : wC.cell? ⟨_, 1, none⟩ = some (.slice none 0 0) := (bx2.out.read 1).trans rfl
      have ye := bx2.out.free 0
      have yf := bx2.out.free 1
      have yin := bx2.out.inside
      refine wpAnyH_ready (rs := [8]) (by kernel_rfl) (by simp) (AllReadyH.cons rfl (fun K hK => ?_) AllReadyH.nil); go_simp
      have sC := hbC.size
      rw [World.size_alloc] at sC
      have sS := hS1.out.size
      have hst : Below w3.heap.size w3 ((wC.setCell ⟨wS.heap.size, 0, none⟩ (.slice xS Y.length cS)).setCell ⟨wS.heap.size, 1, none⟩ (.slice xC A.length cC)) := below_set2 hC1.out ga0
      have hat : CuL (.pointer (some ⟨wS.heap.size, 0, none⟩)) (Y, A) w3.heap.size ((wC.setCell ⟨wS.heap.size, 0, none⟩ (.slice xS Y.length cS)).setCell ⟨wS.heap.size, 1, none⟩ (.slice xC A.length cC)) := cuL_mk ((bx2.out.put 0 _).put 1 _) ga0 (((((hOS.out.below (Below.alloc' (Below.refl _ _) _)).below hbC)).asideU _ _ (Or.inr (Nat.le_refl _))).asideU _ _ (Or.inr (Nat.le_refl _))) ((hOC.out.asideU _ _ (by left; simp)).asideU _ _ (by left; simp)) (Nat.le_refl _) (by simp; omega) (by left; simp)
      refine hK.out _ _ hst (fun _ => ?_)
      clear hK K ya yb ye yf
      (try simp only [Act.put, List.getElem_toArray, List.getElem_cons_succ, List.getElem_cons_zero, List.setIfInBounds_toArray, List.set_cons_zero, List.set_cons_succ])
      refine wpAnyH_done (by kernel_rfl) ?_ _
      go_wp2_with fail
      go_meet
      exact ⟨hat, hst⟩
      go_simp
      have bx := Lib.hid (show Wb ((w3.drew).alloc (.cells #[.slice none 0 0, .slice none 0 0] 27)) (w3.heap.size) 27 #[.slice none 0 0, .slice none 0 0] from Wb.new (w3.drew) 27 #[.slice none 0 0, .slice none 0 0])
      have ga0 := hH.out.size
      have hA1 := Lib.hid (Below.alloc' hH.out (.cells #[.slice none 0 0, .slice none 0 0] 27))
      refine hK.out _ _ hA1.out (fun _ => ?_)
      clear hK K
      (try simp only [Act.put, List.getElem_toArray, List.getElem_cons_succ, List.getElem_cons_zero, List.setIfInBounds_toArray, List.set_cons_zero, List.set_cons_succ])
      refine wpAnyH_ready (rs := [2]) (by kernel_rfl) (by simp) (AllReadyH.cons rfl (fun K hK => ?_) AllReadyH.nil)
      go_simp
      refine (cloneInt_any x c Y _ hmY hcY hnY (hh.out.1.2.2.below (Below.via' B3 hA1.out))).mono ?_
      rintro e wS ⟨uS, rfl, hoS, hbS⟩
      have hOS := Lib.hid (OwR.of hoS)
      obtain ⟨xS, cS, rfl, -, -⟩ := hOS.out.form
      clear hoS
      have hS1 := Lib.hid (Below.via' hA1.out hbS)
      refine hK.out _ _ hS1.out (fun _ => ?_)
      clear hK K
      (try simp only [Act.put, List.getElem_toArray, List.getElem_cons_succ, List.getElem_cons_zero, List.setIfInBounds_toArray, List.set_cons_zero, List.set_cons_succ])
      have bx1 := Lib.hid (bx.out.kept hbS)
      refine wpAnyH_ready (rs := [5]) (by kernel_rfl) (by simp) (AllReadyH.cons rfl (fun K hK => ?_) AllReadyH.nil)
      go_simp
      refine (cloneInt_any y d A _ hmA hcA hnA (hh.out.2.2.2.below (Below.via' B3 hS1.out))).mono ?_
      rintro e wC ⟨uC, rfl, hoC, hbC⟩
      have hOC := Lib.hid (OwR.of hoC)
      obtain ⟨xC, cC, rfl, -, -⟩ := hOC.out.form
      clear hoC
      have hC1 := Lib.hid (Below.via' hS1.out hbC)
      refine hK.out _ _ hC1.out (fun _ => ?_)
      clear hK K
      (try simp only [Act.put, List.getElem_toArray, List.getElem_cons_succ, List.getElem_cons_zero, List.setIfInBounds_toArray, List.set_cons_zero, List.set_cons_succ])
      refine wpAnyH_take (i := 6) (v := ?_) rfl (by kernel_rfl) (by kernel_rfl) (by kernel_rfl) (fun _ _ _ h => h) (Or.inl ⟨by rfl, ?_⟩) (by assumption) ?_; rotate_left; · (intro wz hz; (skip); clear hz; go_simp; try with_reducible rfl); (try simp only [Act.put, List.getElem_toArray, List.getElem_cons_succ, List.getElem_cons_zero, List.setIfInBounds_toArray, List.set_cons_zero, List.set_cons_succ])
      have bx2 := Lib.hid (bx1.out.kept hbC)
      have ya : wC.cell? ⟨_, 0, none⟩ = some (.slice none 0 0) := (bx2.out.read 0).trans rfl
      have yb : wC.cell? ⟨_, 1, none⟩ = some (.slice none 0 0) := (bx2.out.read 1).trans rfl
      have ye := bx2.out.free 0
      have yf := bx2.out.free 1
      have yin := bx2.out.inside
      refine wpAnyH_ready (rs := [8]) (by kernel_rfl) (by simp) (AllReadyH.cons rfl (fun K hK => ?_) AllReadyH.nil); go_simp
      have sC := hbC.size
      have sS := hbS.size
      have sA : (w3.drew.alloc (.cells #[.slice none 0 0, .slice none 0 0] 27)).heap.size = w3.heap.size + 1 := by rw [World.size_alloc]; rfl
      have hst : Below w3.heap.size w3 ((wC.setCell ⟨w3.heap.size, 0, none⟩ (.slice xS Y.length cS)).setCell ⟨w3.heap.size, 1, none⟩ (.slice xC A.length cC)) := below_set2 hC1.out ga0
      have hat : CuL (.pointer (some ⟨w3.heap.size, 0, none⟩)) (Y, A) w3.heap.size ((wC.setCell ⟨w3.heap.size, 0, none⟩ (.slice xS Y.length cS)).setCell ⟨w3.heap.size, 1, none⟩ (.slice xC A.length cC)) := cuL_mk ((bx2.out.put 0 _).put 1 _) ga0 ((((hOS.out.below hbC)).asideU _ _ (by left; rw [sA]; show w3.heap.size < _; omega)).asideU _ _ (by left; rw [sA]; show w3.heap.size < _; omega)) ((hOC.out.asideU _ _ (by left; show w3.heap.size < _; omega)).asideU _ _ (by left; show w3.heap.size < _; omega)) (by rw [sA]; omega) (by omega) (by left; exact Nat.le_refl _)
      refine hK.out _ _ hst (fun _ => ?_)
      clear hK K ya yb ye yf
      (try simp only [Act.put, List.getElem_toArray, List.getElem_cons_succ, List.getElem_cons_zero, List.setIfInBounds_toArray, List.set_cons_zero, List.set_cons_succ])
      refine wpAnyH_done (by kernel_rfl) ?_ _
      go_wp2_with fail
      go_meet
      exact ⟨hat, hst⟩
  obtain ⟨⟨g, xS, cS, xC, cC, rfl, hG, hgl, hOS, hOC, hne⟩, hb4⟩ := hcut
  obtain ⟨w4, rfl⟩ : ∃ u : World, u = wc := ⟨_, rfl⟩
  have hb4x := hb4
  dsimp only at hG hOS hOC hne
  have B4 : Below w.heap.size w w4 := Below.via' B3 hb4
  have t4 := Lib.hid (t3.out.below hb4)
  try clear a3a a3b a3c b3a b3b b3c z3a z3b z3c z3d z3e
  clear hb4
  obtain ⟨⟨a4a, a4b, a4c⟩, ⟨b4a, b4b, b4c⟩, zz4⟩ := t4.out
  have z4a := (zz4.read 0).trans rfl
  have z4b := (zz4.read 1).trans rfl
  have z4c := zz4.free 0
  have z4d := zz4.free 1
  have z4e := zz4.inside
  clear zz4
  have hsz4 := B4.size
  have hgw : w.heap.size + 1 + 1 < g := by omega
  have hGh := Lib.hid hG
  have hOSh := Lib.hid hOS
  have hOCh := Lib.hid hOC
  have hneh := Lib.hid hne
  have hz3 := B3.size
  have hb4s := (show Below w3.heap.size w3 w4 from hb4x).size
  clear hG hOS hOC hne
  go_wp2
  clear a4a a4b b4a b4b z4a z4b z4c z4d z4e
  go_loopw [36] (fun q wr => ∃ j : Nat, j ≤ B.length ∧ q = .int .i64 j ∧ Hid (Wb wr g 27 #[.slice xS Y.length cS, .slice xC A.length cC]) ∧ Hid (wr.ownsRow w3.heap.size 3 1 (.slice xS Y.length cS) Y.length (iC Y)) ∧ Hid (wr.ownsRow w3.heap.size 3 1 (.slice xC A.length cC) A.length (iC (dfK A B j))) ∧ Hid (Tri3 wr w.heap.size x Y.length c y A.length d x2 Z.length c2 y2 B.length d2) ∧ Below w.heap.size w wr) (fun q _ => B.length - (intOf q).toNat)
  case atStart => exact ⟨0, by omega, by go_num, hGh.out, hOSh.out, hOCh.out, t4.out, B4⟩
  case round =>
    clear hGh hOSh hOCh t4 B4
    obtain ⟨j, hj, rfl, hG, hOS, hOC, tr, hB⟩ := hrel
    have g0 : wr.cell? ⟨g, 0, none⟩ = some (.slice xS Y.length cS) := (hG.out.read 0).trans rfl
    have g1 : wr.cell? ⟨g, 1, none⟩ = some (.slice xC A.length cC) := (hG.out.read 1).trans rfl
    have gi := hG.out.inside
    obtain ⟨⟨ara, arb, arc⟩, ⟨bra, brb, brc⟩, zzr⟩ := tr.out
    clear zzr
    by_cases hlt : j < B.length
    · obtain ⟨gC, cC2, he⟩ := own_some hOC.out (by have := hlh.out; omega)
      cases he
      obtain ⟨bl, off, b, rfl, hbl, hBj, hc0⟩ := (hk.out.below hB).2.2.2.int hlt
      have hjA : j < A.length := by have := hlh.out; omega
      have hAj : A[j]? = some A[j] := List.getElem?_eq_getElem hjA
      obtain ⟨u, hu, k0⟩ := own_cell hOC.out (j := j) (by omega)
      obtain rfl : u = .int .i64 A[j] := Option.some.inj (hu.symm.trans (iC_at ((dfK_late A B j j (Nat.le_refl _)).trans hAj)))
      have k2 := hOC.out.frozenAt j
      have k4 := (own_lt hOC.out).2
      have k5 := (own_lt hOC.out).1
      have b1 := hbA.out j _ hAj
      have b2 := hbB.out j _ hBj
      generalize A[j] = a at *
      have hst := Lib.hid (dfK_step hAj hBj)
      have hlt' : (j : Int) < (B.length : Int) := by omega
      have hlt2 : (j : Int) < (A.length : Int) := by omega
      have hgg : gC ≠ g := fun e => wb_apart hG.out hOC.out (by decide) (by rw [e]; rfl)
      have hG2 : Hid (Wb (wr.setCell ⟨gC, j, none⟩ (.int .i64 (a - b))) g 27 #[.slice xS Y.length cS, .slice (some ⟨gC, 0, none⟩) A.length cC]) := hG.out.off ⟨gC, j, none⟩ (Ne.symm hgg) _
      have hOS2 : Hid ((wr.setCell ⟨gC, j, none⟩ (.int .i64 (a - b))).ownsRow w3.heap.size 3 1 (.slice xS Y.length cS) Y.length (iC Y)) := hOS.out.kept (grown_setU wr ⟨gC, j, none⟩ _) (by
        cases hv : (Value.slice xS Y.length cS).ownBlock with
        | none => exact .inl rfl
        | some q => exact .inr (fun e => hneh.out q hv (by cases e; rfl)))
      have hOC2 : Hid ((wr.setCell ⟨gC, j, none⟩ (.int .i64 (a - b))).ownsRow w3.heap.size 3 1 (.slice (some ⟨gC, 0, none⟩) A.length cC) A.length (iC (dfK A B (j + 1)))) := by
        have h5 := (hOC.out.stored j (.int .i64 (a - b))).1
        rw [← iC_setA, ← hst.out] at h5
        exact h5
      have tr2 : Hid (Tri3 (wr.setCell ⟨gC, j, none⟩ (.int .i64 (a - b))) w.heap.size x Y.length c y A.length d x2 Z.length c2 (some ⟨bl, off, none⟩) B.length d2) := ⟨tr.out.1.grown (grown_setU wr ⟨gC, j, none⟩ _) (by intro e; injection e with e; simp at e; omega), tr.out.2.1.grown (grown_setU wr ⟨gC, j, none⟩ _) (by intro e; injection e with e; simp at e; omega), tr.out.2.2.off ⟨gC, j, none⟩ (by show w.heap.size + 1 + 1 ≠ gC; omega) _⟩
      replace hu := Lib.hid hu
      replace hAj := Lib.hid hAj
      replace hBj := Lib.hid hBj
      go_wp2
      go_roundw
      case rel => exact ⟨j + 1, by omega, by go_num, hG2, hOS2, hOC2, tr2, Below.setCell (p := ⟨gC, j, none⟩) hB (by show w.heap.size ≤ gC; omega) _⟩
      case measure => simp [intOf]; omega
    · have hij : j = B.length := by omega
      subst hij
      have hdl := Lib.hid (dfK_all hlh.out)
      have hO3 : Hid (wr.ownsRow w3.heap.size 3 1 (.slice xC A.length cC) A.length (iC (dfC A B))) := by
        have h5 := hOC.out
        rw [hdl.out] at h5
        exact h5
      have hdlen := Lib.hid (dfC_len hlh.out)
      have hci : Hid (CIn wr xS xC Y (dfC A B)) := by
        refine ⟨⟨hmY, hh.out.1.2.1, Rd.of_own hOS.out⟩, ⟨by rw [hdlen.out]; omega, fun n hn => ?_, Rd.of_own hO3.out⟩⟩
        obtain ⟨i, hi, e⟩ := List.getElem_of_mem hn
        have hi2 : i < A.length := by rw [← hdlen.out]; exact hi
        have hA1 : A[i]? = some A[i] := List.getElem?_eq_getElem hi2
        have hB1 : B[i]? = some (B[i]'(by have := hlh.out; omega)) := List.getElem?_eq_getElem (by have := hlh.out; omega)
        have h6 := dfC_at hA1 hB1
        rw [List.getElem?_eq_getElem hi, e] at h6
        have := hbA.out i _ hA1
        have := hbB.out i _ hB1
        have h7 := Option.some.inj h6
        unfold IsI64
        omega
      have hcall := wl_any xS xC cS cC Y (dfC A B) wr hci.out
      rw [hdlen.out] at hcall
      have ze := tr.out.2.2.inside
      go_wp2_with fail
      refine hcall.mono ?_
      rintro e w5 ⟨h5, hb5⟩
      clear hcall
      have B5 : Below w.heap.size w w5 := Below.via' hB hb5
      have hs5 : w3.heap.size ≤ w5.heap.size := by have := hG.out.inside; have := hb5.size; omega
      have z5 := tr.out.2.2.kept hb5
      have z5a : w5.cell? ⟨w.heap.size + 1 + 1, 0, none⟩ = some (.slice none 0 0) := (z5.read 0).trans rfl
      have z5b : w5.cell? ⟨w.heap.size + 1 + 1, 1, none⟩ = some (.slice none 0 0) := (z5.read 1).trans rfl
      have z5c := z5.free 0
      have z5d := z5.free 1
      have z5e := z5.inside
      have hS5 := Lib.hid (own_below hOS.out hb5)
      have hC5 := Lib.hid (own_below hO3.out hb5)
      have z5h := Lib.hid z5
      clear z5 hb5 g0 g1 gi ara arb arc bra brb brc
      rcases h5 with ⟨hr, rfl⟩ | ⟨hr, rfl⟩
      · have hv := Lib.hid (dq_yes (dq_ok hg1h.out hg2h.out hg3h.out hr))
        clear hr
        go_wp2
        refine bodyPost_ret (v := .tuple #[.agg #[.slice xS Y.length cS, .slice xC A.length cC], .bool true]) (by simp [results, Try.results40, go_sem, *]) rfl ?_
        have hlen := hdlen.out
        rw [← hlen]
        refine retCu_yes hv.out.1 hv.out.2 ?_ ?_
        · refine OwU.more (lo := w3.heap.size) (owU_of ?_ ?_ ?_ ?_) hz3 (Nat.le_refl _)
          · simp only [World.size_setCell]
            exact hs5
          · exact ((hS5.out.kept (grown_setU _ _ _) (own_ne_lt hS5.out (by show w.heap.size + 1 + 1 < w3.heap.size; omega))).kept (grown_setU _ _ _) (own_ne_lt hS5.out (by show w.heap.size + 1 + 1 < w3.heap.size; omega)))
          · rw [hlen]
            exact ((hC5.out.kept (grown_setU _ _ _) (own_ne_lt hC5.out (by show w.heap.size + 1 + 1 < w3.heap.size; omega))).kept (grown_setU _ _ _) (own_ne_lt hC5.out (by show w.heap.size + 1 + 1 < w3.heap.size; omega)))
          · intro q hq e
            rw [hlen] at e
            exact hneh.out q hq e
        · repeat (refine Below.setCell ?_ (by simp; try omega) _)
          exact B5
      · have hv := Lib.hid (dq_no (dq_no4 Y Z hr))
        clear hr
        go_wp2
        refine bodyPost_ret (v := .tuple #[.agg #[.slice none 0 0, .slice none 0 0], .bool false]) (by simp [results, Try.results40, go_sem, *]) rfl (retCu_no hv.out.1 hv.out.2 ?_)
        repeat (refine Below.setCell ?_ (by simp; try omega) _)
        exact B5
end Go.Proofs.Ytnmpigedhpdenaa
