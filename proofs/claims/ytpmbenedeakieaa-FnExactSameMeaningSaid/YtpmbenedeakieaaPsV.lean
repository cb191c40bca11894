import Derived.Test.YtpmbenedeakieaaPsN
import Derived.Test.YtpmbenedeakieaaSmI
namespace Go.Proofs.Ytpmbenedeakieaa
open Go.RowKit
set_option maxRecDepth 100000

/-- Two tables have the same normal table. -/
def smT (S : List (ByteArray × Int)) (l : Int) (F W : List Int) (m k : Int) (G U : List Int) (n : Int) : Bool := decide (l = k) && decide (m = n) && sqB F G && sqB (nwL S W) (nwL S U)
section
variable {S : List (ByteArray × Int)} {l : Int} {F W : List Int} {m k : Int} {G U : List Int} {n : Int}
theorem smT_l (h : l ≠ k) : smT S l F W m k G U n = false := by unfold smT; rw [decide_eq_false h]; rfl
theorem smT_m (h : m ≠ n) : smT S l F W m k G U n = false := by unfold smT; rw [decide_eq_false h, Bool.and_false]; rfl
theorem smT_F (h : sqB F G = false) : smT S l F W m k G U n = false := by unfold smT; rw [h, Bool.and_false]; rfl
theorem smT_W (h : sqB (nwL S W) (nwL S U) = false) : smT S l F W m k G U n = false := by unfold smT; rw [h, Bool.and_false]
theorem smT_yes (h1 : l = k) (h2 : m = n) (h3 : sqB F G = true) (h4 : sqB (nwL S W) (nwL S U) = true) : smT S l F W m k G U n = true := by unfold smT; rw [decide_eq_true h1, decide_eq_true h2, h3, h4]; rfl
end
theorem drew_sizeN (w : World) : w.drew.heap.size = w.heap.size := rfl
theorem tq_of_wbN {w : World} {g t : Nat} {l : Int} {x : Option Addr} {n c : Nat} {z : Option Addr} {k d : Nat} {m : Int} (h : Wb w g t #[.int .i64 l, .slice x n c, .slice z k d, .int .i64 m]) : TQ w g l x n c z k d m :=
  ⟨(h.read 0).trans rfl, (h.read 1).trans rfl, (h.read 2).trans rfl, (h.read 3).trans rfl, h.inside⟩
theorem OwY.asideN {w : World} {lo hi : Nat} {u v : Value} {F W : List Int} (h : OwY w lo hi u v F W) (p : Addr) (q : Value) (hp : p.block < lo ∨ hi ≤ p.block) : OwY (w.setCell p q) lo hi u v F W :=
  h.keep (grown_setN w p q) (fun k hk => by obtain rfl := Option.some.inj hk; exact hp)
/-- A world behind a whole table's store. -/
def st4 (w : World) (g : Nat) (l : Int) (x : Option Addr) (n c : Nat) (z : Option Addr) (k d : Nat) (m : Int) : World := (((w.setCell ⟨g, 0, none⟩ (.int .i64 l)).setCell ⟨g, 1, none⟩ (.slice x n c)).setCell ⟨g, 2, none⟩ (.slice z k d)).setCell ⟨g, 3, none⟩ (.int .i64 m)
section
variable {w : World} {g : Nat} {l : Int} {x : Option Addr} {n c : Nat} {z : Option Addr} {k d : Nat} {m : Int}
theorem st4_wb {t : Nat} {a0 a1 a2 a3 : Value} (h : Wb w g t #[a0, a1, a2, a3]) : Wb (st4 w g l x n c z k d m) g t #[.int .i64 l, .slice x n c, .slice z k d, .int .i64 m] := (((h.put 0 _).put 1 _).put 2 _).put 3 _
theorem st4_far {t q : Nat} {cs : Array Value} (h : Wb w q t cs) (hne : q ≠ g) : Wb (st4 w g l x n c z k d m) q t cs :=
  (Below.heap_setCell _ _ _ _ hne).trans ((Below.heap_setCell _ _ _ _ hne).trans ((Below.heap_setCell _ _ _ _ hne).trans ((Below.heap_setCell _ _ _ _ hne).trans h)))
theorem st4_own {lo hi : Nat} {u v : Value} {A B : List Int} (h : OwY w lo hi u v A B) (hp : g < lo ∨ hi ≤ g) : OwY (st4 w g l x n c z k d m) lo hi u v A B :=
  (((h.asideN _ _ hp).asideN _ _ hp).asideN _ _ hp).asideN _ _ hp
theorem st4_below {b : Nat} {w0 : World} (h : Below b w0 w) (hg : b ≤ g) : Below b w0 (st4 w g l x n c z k d m) := (((h.setCell hg _).setCell hg _).setCell hg _).setCell hg _
end
set_option maxHeartbeats 16000000 in
theorem haveSame_any (y x z a b : Option Addr) (c1 c d c4 d4 : Nat) (S : List (ByteArray × Int)) (l : Int) (F W : List Int) (m k : Int) (G U : List Int) (n : Int) (w : World) (hs : schB S = true) (hl : W.length = S.length) (hl2 : U.length = S.length) (hS : SIn w y c1 S) (hmF : F.length ≤ 1048576) (hcF : F.length ≤ c) (hnF : x = none → c = 0) (hcW : W.length ≤ d) (hnW : z = none → d = 0) (hF : Rd w x (iC F)) (hW : Rd w z (iC W)) (hmG : G.length ≤ 1048576) (hcG : G.length ≤ c4) (hnG : a = none → c4 = 0) (hcU : U.length ≤ d4) (hnU : b = none → d4 = 0) (hG : Rd w a (iC G)) (hU : Rd w b (iC U)) :
    Calls Try.prog 92 #[.slice y S.length c1, .agg #[.int .i64 l, .slice x F.length c, .slice z W.length d, .int .i64 m], .agg #[.int .i64 k, .slice a G.length c4, .slice b U.length d4, .int .i64 n]] w fun e w' => e = .returned (.bool (smT S l F W m k G U n)) ∧ Below w.heap.size w w' := by
  have hSh := Lib.hid hS
  have hFh := Lib.hid hF
  have hWh := Lib.hid hW
  have hGh := Lib.hid hG
  have hUh := Lib.hid hU
  have hsh := Lib.hid hs
  have hlh := Lib.hid hl
  have hl2h := Lib.hid hl2
  have h6 := (schB_len hs).2
  have hF1 := Lib.hid (And.intro hcF hnF)
  have hW1 := Lib.hid (And.intro hcW hnW)
  have hG1 := Lib.hid (And.intro hcG hnG)
  have hU1 := Lib.hid (And.intro hcU hnU)
  clear hF hW hS hs hl hl2 hG hU hcF hnF hcW hnW hcG hnG hcU hnU
  have q1 := Wb.new w 37 #[.int .i64 l, .slice x F.length c, .slice z W.length d, .int .i64 m]
  obtain ⟨W2, hW2⟩ : ∃ W2, W2 = (w.alloc (.cells #[.int .i64 l, .slice x F.length c, .slice z W.length d, .int .i64 m] 37)).alloc (.cells #[.int .i64 k, .slice a G.length c4, .slice b U.length d4, .int .i64 n] 37) := ⟨_, rfl⟩
  replace q1 := q1.kept (show Below (w.alloc (.cells #[.int .i64 l, .slice x F.length c, .slice z W.length d, .int .i64 m] 37)).heap.size (w.alloc (.cells #[.int .i64 l, .slice x F.length c, .slice z W.length d, .int .i64 m] 37)) W2 from by rw [hW2]; exact (by repeat (first | exact Below.refl _ _ | assumption | refine Below.drew ?_ | refine below_drewN ?_ _ | refine Below.alloc' ?_ _ | (refine Below.setCell ?_ (by first | omega | (simp; done) | (simp; omega) | exact Below.size (by assumption) | exact Nat.le_trans (Below.size (by assumption)) (by simp)) _) | (refine Below.via' ?_ (by assumption)) | (refine Below.alloc ?_ (by first | omega | (simp; done) | (simp; omega) | exact Below.size (by assumption) | exact Nat.le_trans (Below.size (by assumption)) (by simp)) _) | (refine Below.via ?_ (by assumption) (by first | omega | (simp; done) | (simp; omega) | exact Below.size (by assumption) | exact Nat.le_trans (Below.size (by assumption)) (by simp))))))
  have q2 := Wb.new (w.alloc (.cells #[.int .i64 l, .slice x F.length c, .slice z W.length d, .int .i64 m] 37)) 37 #[.int .i64 k, .slice a G.length c4, .slice b U.length d4, .int .i64 n]
  rw [← hW2, World.size_alloc] at q2
  have B2 : Below w.heap.size w W2 := by rw [hW2]; exact (by repeat (first | exact Below.refl _ _ | assumption | refine Below.drew ?_ | refine below_drewN ?_ _ | refine Below.alloc' ?_ _ | (refine Below.setCell ?_ (by first | omega | (simp; done) | (simp; omega) | exact Below.size (by assumption) | exact Nat.le_trans (Below.size (by assumption)) (by simp)) _) | (refine Below.via' ?_ (by assumption)) | (refine Below.alloc ?_ (by first | omega | (simp; done) | (simp; omega) | exact Below.size (by assumption) | exact Nat.le_trans (Below.size (by assumption)) (by simp)) _) | (refine Below.via ?_ (by assumption) (by first | omega | (simp; done) | (simp; omega) | exact Below.size (by assumption) | exact Nat.le_trans (Below.size (by assumption)) (by simp)))))
  have hs2 : W2.heap.size = w.heap.size + 1 + 1 := by rw [hW2]; simp
  replace hW2 := Lib.hid hW2
  have q1h := Lib.hid (show Wb W2.drew w.heap.size 37 #[.int .i64 l, .slice x F.length c, .slice z W.length d, .int .i64 m] from q1)
  have q2h := Lib.hid (show Wb W2.drew (w.heap.size + 1) 37 #[.int .i64 k, .slice a G.length c4, .slice b U.length d4, .int .i64 n] from q2)
  have t1 := Lib.hid (tq_of_wbN q1h.out)
  have t2 := Lib.hid (tq_of_wbN q2h.out)
  clear q1 q2
  go_enter Try.func92, Try.ntmps92
  go_wp2_with fail
  rw [← hW2.out]
  go_cut [] (fun wx => ∃ xA cA zA dA xB cB zB dB, TQ wx w.heap.size l xA F.length cA zA (nwL S W).length dA m ∧ TQ wx (w.heap.size + 1) k xB G.length cB zB (nwL S U).length dB n ∧ (Rd wx xA (iC F) ∧ Rd wx zA (iC (nwL S W))) ∧ (Rd wx xB (iC G) ∧ Rd wx zB (iC (nwL S U))) ∧ Below w.heap.size w wx)
  case first =>
    obtain ⟨p0, p1, p2, p3, pl⟩ := t1.out
    obtain ⟨r0, r1, r2, r3, rl⟩ := t2.out
    refine wp_region_held_drew (S := fun X => Below w.heap.size w X) (by kernel_rfl) (Below.drew B2) (fun hH => ?_)
    replace hH := Lib.hid hH
    have hS := hH.out
    refine wpAnyH_take (i := 0) (v := ?_) rfl (by kernel_rfl) (by kernel_rfl) (by kernel_rfl) (fun _ _ _ h => h) (Or.inl ⟨by rfl, ?_⟩) (by assumption) ?_; rotate_left; · (intro wz hz; (skip); clear hz; go_simp; try with_reducible rfl); (try simp only [Act.put, List.getElem_toArray, List.getElem_cons_succ, List.getElem_cons_zero, List.setIfInBounds_toArray, List.set_cons_zero, List.set_cons_succ])
    refine wpAnyH_take (i := 3) (v := ?_) rfl (by kernel_rfl) (by kernel_rfl) (by kernel_rfl) (fun _ _ _ h => h) (Or.inl ⟨by rfl, ?_⟩) (by assumption) ?_; rotate_left; · (intro wz hz; (skip); clear hz; go_simp; try with_reducible rfl); (try simp only [Act.put, List.getElem_toArray, List.getElem_cons_succ, List.getElem_cons_zero, List.setIfInBounds_toArray, List.set_cons_zero, List.set_cons_succ])
    clear hS
    refine wpAnyH_ready (rs := [1, 4]) (by kernel_rfl) (by simp) (AllReadyH.cons rfl (fun K hK => ?_) (AllReadyH.cons rfl (fun K hK => ?_) AllReadyH.nil))
    go_simp
    refine hK.out _ _ hH.out (fun _ => ?_)
    clear hK K
    (try simp only [Act.put, List.getElem_toArray, List.getElem_cons_succ, List.getElem_cons_zero, List.setIfInBounds_toArray, List.set_cons_zero, List.set_cons_succ])
    refine wpAnyH_ready (rs := [2, 4]) (by kernel_rfl) (by simp) (AllReadyH.cons rfl (fun K hK => ?_) (AllReadyH.cons rfl (fun K hK => ?_) AllReadyH.nil))
    go_simp
    refine (normalTable_any y x z _ _ _ S l F W m _ hsh.out hlh.out (hSh.out.below hH.out) hmF hF1.out.1 hF1.out.2 hW1.out.1 hW1.out.2 (hFh.out.below hH.out) (hWh.out.below hH.out)).mono ?_
    rintro e wA ⟨xA, cA, zA, dA, rfl, hoA, hbA⟩
    have hoA := Lib.hid hoA
    have hqA := Lib.hid (Below.via' hH.out hbA)
    have tA2 := Lib.hid (t2.out.below hbA)
    obtain ⟨s0, s1, s2, s3, sl⟩ := tA2.out
    refine hK.out _ _ hqA.out (fun _ => ?_)
    clear hK K
    (try simp only [Act.put, List.getElem_toArray, List.getElem_cons_succ, List.getElem_cons_zero, List.setIfInBounds_toArray, List.set_cons_zero, List.set_cons_succ])
    refine wpAnyH_ready (rs := [4]) (by kernel_rfl) (by simp) (AllReadyH.cons rfl (fun K hK => ?_) AllReadyH.nil); go_simp
    refine hK.out _ _ hqA.out (fun _ => ?_)
    clear hK K
    (try simp only [Act.put, List.getElem_toArray, List.getElem_cons_succ, List.getElem_cons_zero, List.setIfInBounds_toArray, List.set_cons_zero, List.set_cons_succ])
    refine wpAnyH_ready (rs := [5]) (by kernel_rfl) (by simp) (AllReadyH.cons rfl (fun K hK => ?_) AllReadyH.nil); go_simp
    refine (normalTable_any y a b _ _ _ S k G U n _ hsh.out hl2h.out (hSh.out.below hqA.out) hmG hG1.out.1 hG1.out.2 hU1.out.1 hU1.out.2 (hGh.out.below hqA.out) (hUh.out.below hqA.out)).mono ?_
    rintro e wB ⟨xB, cB, zB, dB, rfl, hoB, hbB⟩
    have hoB := Lib.hid hoB
    have hqB := Lib.hid (Below.via' hqA.out hbB)
    refine hK.out _ _ hqB.out (fun _ => ?_)
    clear hK K p0 p1 p2 p3 r0 r1 r2 r3 s0 s1 s2 s3
    (try simp only [Act.put, List.getElem_toArray, List.getElem_cons_succ, List.getElem_cons_zero, List.setIfInBounds_toArray, List.set_cons_zero, List.set_cons_succ])
    have e1 := hbA.size
    have e2 := hbB.size
    have e0 : W2.drew.heap.size = W2.heap.size := rfl
    have f1 := Lib.hid ((q1h.out.kept hbA).kept hbB)
    have f2 := Lib.hid ((q2h.out.kept hbA).kept hbB)
    have oA := Lib.hid (hoA.out.below hbB)
    have oB := hoB
    have ya := f1.out.read 0
    have yb := f1.out.read 1
    have yc := f1.out.read 2
    have yd := f1.out.read 3
    have ye := f1.out.free 0
    have yf := f1.out.free 1
    have yg := f1.out.free 2
    have yh := f1.out.free 3
    have yin := f1.out.inside
    refine wpAnyH_ready (rs := [6]) (by kernel_rfl) (by simp) (AllReadyH.cons rfl (fun K hK => ?_) AllReadyH.nil); go_simp
    have g1 : Below w.heap.size w (st4 wB w.heap.size l xA F.length cA zA (nwL S W).length dA m) := st4_below hqB.out (Nat.le_refl _)
    refine hK.out _ _ g1 (fun _ => ?_)
    clear hK K ya yb yc yd ye yf yg yh
    (try simp only [Act.put, List.getElem_toArray, List.getElem_cons_succ, List.getElem_cons_zero, List.setIfInBounds_toArray, List.set_cons_zero, List.set_cons_succ])
    have f3 := Lib.hid (show Wb (st4 wB w.heap.size l xA F.length cA zA (nwL S W).length dA m) (w.heap.size + 1) _ _ from st4_far f2.out (by omega))
    obtain ⟨X1, hX1⟩ : ∃ X1, X1 = (st4 wB w.heap.size l xA F.length cA zA (nwL S W).length dA m) := ⟨_, rfl⟩
    have hX1b := hX1
    unfold st4 at hX1b
    rw [← hX1b]
    rw [← hX1] at g1 f3
    have f4 : Wb X1 w.heap.size 37 #[.int .i64 l, .slice xA F.length cA, .slice zA (nwL S W).length dA, .int .i64 m] := by rw [hX1]; exact st4_wb f1.out
    have eA1 : ∃ lo hi, (w.heap.size < lo ∨ hi ≤ w.heap.size) ∧ (w.heap.size + 1 < lo ∨ hi ≤ w.heap.size + 1) ∧ OwY wB lo hi (.slice xA F.length cA) (.slice zA (nwL S W).length dA) F (nwL S W) := ⟨_, _, Or.inl (by show w.heap.size < W2.heap.size; omega), Or.inl (by show w.heap.size + 1 < W2.heap.size; omega), oA.out⟩
    obtain ⟨loA, hiA, sgA, shA, pA⟩ := eA1
    have oA1 := st4_own (g := w.heap.size) (l := l) (x := xA) (n := F.length) (c := cA) (z := zA) (k := (nwL S W).length) (d := dA) (m := m) pA sgA
    rw [← hX1] at oA1
    clear pA
    replace oA1 := Lib.hid oA1
    have eB1 : ∃ lo hi, (w.heap.size < lo ∨ hi ≤ w.heap.size) ∧ (w.heap.size + 1 < lo ∨ hi ≤ w.heap.size + 1) ∧ OwY wB lo hi (.slice xB G.length cB) (.slice zB (nwL S U).length dB) G (nwL S U) := ⟨_, _, Or.inl (by omega), Or.inl (by omega), oB.out⟩
    obtain ⟨loB, hiB, sgB, shB, pB⟩ := eB1
    have oB1 := st4_own (g := w.heap.size) (l := l) (x := xA) (n := F.length) (c := cA) (z := zA) (k := (nwL S W).length) (d := dA) (m := m) pB sgB
    rw [← hX1] at oB1
    clear pB
    replace oB1 := Lib.hid oB1
    replace hX1 := Lib.hid hX1
    replace hX1b := Lib.hid hX1b
    replace f4 := Lib.hid f4
    have ya := f3.out.read 0
    have yb := f3.out.read 1
    have yc := f3.out.read 2
    have yd := f3.out.read 3
    have ye := f3.out.free 0
    have yf := f3.out.free 1
    have yg := f3.out.free 2
    have yh := f3.out.free 3
    have yin2 := f3.out.inside
    refine wpAnyH_ready (rs := [7]) (by kernel_rfl) (by simp) (AllReadyH.cons rfl (fun K hK => ?_) AllReadyH.nil); go_simp
    have g2 : Below w.heap.size w (st4 X1 (w.heap.size + 1) k xB G.length cB zB (nwL S U).length dB n) := st4_below g1 (Nat.le_succ _)
    refine hK.out _ _ g2 (fun _ => ?_)
    clear hK K ya yb yc yd ye yf yg yh
    (try simp only [Act.put, List.getElem_toArray, List.getElem_cons_succ, List.getElem_cons_zero, List.setIfInBounds_toArray, List.set_cons_zero, List.set_cons_succ])
    refine wpAnyH_done (by kernel_rfl) ?_ _
    go_wp2_with fail
    go_meet
    exact ⟨xA, cA, zA, dA, xB, cB, zB, dB, tq_of_wbN (st4_far f4.out (by omega)), tq_of_wbN (st4_wb f3.out), (st4_own oA1.out shA).rd, (st4_own oB1.out shB).rd, g2⟩
    go_simp
    refine hK.out _ _ hH.out (fun _ => ?_)
    clear hK K
    (try simp only [Act.put, List.getElem_toArray, List.getElem_cons_succ, List.getElem_cons_zero, List.setIfInBounds_toArray, List.set_cons_zero, List.set_cons_succ])
    refine wpAnyH_ready (rs := [2]) (by kernel_rfl) (by simp) (AllReadyH.cons rfl (fun K hK => ?_) AllReadyH.nil); go_simp
    refine (normalTable_any y x z _ _ _ S l F W m _ hsh.out hlh.out (hSh.out.below hH.out) hmF hF1.out.1 hF1.out.2 hW1.out.1 hW1.out.2 (hFh.out.below hH.out) (hWh.out.below hH.out)).mono ?_
    rintro e wA ⟨xA, cA, zA, dA, rfl, hoA, hbA⟩
    have hoA := Lib.hid hoA
    have hqA := Lib.hid (Below.via' hH.out hbA)
    have tA2 := Lib.hid (t2.out.below hbA)
    obtain ⟨s0, s1, s2, s3, sl⟩ := tA2.out
    refine hK.out _ _ hqA.out (fun _ => ?_)
    clear hK K
    (try simp only [Act.put, List.getElem_toArray, List.getElem_cons_succ, List.getElem_cons_zero, List.setIfInBounds_toArray, List.set_cons_zero, List.set_cons_succ])
    refine wpAnyH_ready (rs := [5]) (by kernel_rfl) (by simp) (AllReadyH.cons rfl (fun K hK => ?_) AllReadyH.nil); go_simp
    refine (normalTable_any y a b _ _ _ S k G U n _ hsh.out hl2h.out (hSh.out.below hqA.out) hmG hG1.out.1 hG1.out.2 hU1.out.1 hU1.out.2 (hGh.out.below hqA.out) (hUh.out.below hqA.out)).mono ?_
    rintro e wB ⟨xB, cB, zB, dB, rfl, hoB, hbB⟩
    have hoB := Lib.hid hoB
    have hqB := Lib.hid (Below.via' hqA.out hbB)
    refine hK.out _ _ hqB.out (fun _ => ?_)
    clear hK K p0 p1 p2 p3 r0 r1 r2 r3 s0 s1 s2 s3
    (try simp only [Act.put, List.getElem_toArray, List.getElem_cons_succ, List.getElem_cons_zero, List.setIfInBounds_toArray, List.set_cons_zero, List.set_cons_succ])
    have e1 := hbA.size
    have e2 := hbB.size
    have e0 : W2.drew.heap.size = W2.heap.size := rfl
    have f1 := Lib.hid ((q1h.out.kept hbA).kept hbB)
    have f2 := Lib.hid ((q2h.out.kept hbA).kept hbB)
    have oA := Lib.hid (hoA.out.below hbB)
    have oB := hoB
    have ya := f1.out.read 0
    have yb := f1.out.read 1
    have yc := f1.out.read 2
    have yd := f1.out.read 3
    have ye := f1.out.free 0
    have yf := f1.out.free 1
    have yg := f1.out.free 2
    have yh := f1.out.free 3
    have yin := f1.out.inside
    refine wpAnyH_ready (rs := [6]) (by kernel_rfl) (by simp) (AllReadyH.cons rfl (fun K hK => ?_) AllReadyH.nil); go_simp
    have g1 : Below w.heap.size w (st4 wB w.heap.size l xA F.length cA zA (nwL S W).length dA m) := st4_below hqB.out (Nat.le_refl _)
    refine hK.out _ _ g1 (fun _ => ?_)
    clear hK K ya yb yc yd ye yf yg yh
    (try simp only [Act.put, List.getElem_toArray, List.getElem_cons_succ, List.getElem_cons_zero, List.setIfInBounds_toArray, List.set_cons_zero, List.set_cons_succ])
    have f3 := Lib.hid (show Wb (st4 wB w.heap.size l xA F.length cA zA (nwL S W).length dA m) (w.heap.size + 1) _ _ from st4_far f2.out (by omega))
    obtain ⟨X1, hX1⟩ : ∃ X1, X1 = (st4 wB w.heap.size l xA F.length cA zA (nwL S W).length dA m) := ⟨_, rfl⟩
    have hX1b := hX1
    unfold st4 at hX1b
    rw [← hX1b]
    rw [← hX1] at g1 f3
    have f4 : Wb X1 w.heap.size 37 #[.int .i64 l, .slice xA F.length cA, .slice zA (nwL S W).length dA, .int .i64 m] := by rw [hX1]; exact st4_wb f1.out
    have eA1 : ∃ lo hi, (w.heap.size < lo ∨ hi ≤ w.heap.size) ∧ (w.heap.size + 1 < lo ∨ hi ≤ w.heap.size + 1) ∧ OwY wB lo hi (.slice xA F.length cA) (.slice zA (nwL S W).length dA) F (nwL S W) := ⟨_, _, Or.inl (by show w.heap.size < W2.heap.size; omega), Or.inl (by show w.heap.size + 1 < W2.heap.size; omega), oA.out⟩
    obtain ⟨loA, hiA, sgA, shA, pA⟩ := eA1
    have oA1 := st4_own (g := w.heap.size) (l := l) (x := xA) (n := F.length) (c := cA) (z := zA) (k := (nwL S W).length) (d := dA) (m := m) pA sgA
    rw [← hX1] at oA1
    clear pA
    replace oA1 := Lib.hid oA1
    have eB1 : ∃ lo hi, (w.heap.size < lo ∨ hi ≤ w.heap.size) ∧ (w.heap.size + 1 < lo ∨ hi ≤ w.heap.size + 1) ∧ OwY wB lo hi (.slice xB G.length cB) (.slice zB (nwL S U).length dB) G (nwL S U) := ⟨_, _, Or.inl (by omega), Or.inl (by omega), oB.out⟩
    obtain ⟨loB, hiB, sgB, shB, pB⟩ := eB1
    have oB1 := st4_own (g := w.heap.size) (l := l) (x := xA) (n := F.length) (c := cA) (z := zA) (k := (nwL S W).length) (d := dA) (m := m) pB sgB
    rw [← hX1] at oB1
    clear pB
    replace oB1 := Lib.hid oB1
    replace hX1 := Lib.hid hX1
    replace hX1b := Lib.hid hX1b
    replace f4 := Lib.hid f4
    have ya := f3.out.read 0
    have yb := f3.out.read 1
    have yc := f3.out.read 2
    have yd := f3.out.read 3
    have ye := f3.out.free 0
    have yf := f3.out.free 1
    have yg := f3.out.free 2
    have yh := f3.out.free 3
    have yin2 := f3.out.inside
    refine wpAnyH_ready (rs := [7]) (by kernel_rfl) (by simp) (AllReadyH.cons rfl (fun K hK => ?_) AllReadyH.nil); go_simp
    have g2 : Below w.heap.size w (st4 X1 (w.heap.size + 1) k xB G.length cB zB (nwL S U).length dB n) := st4_below g1 (Nat.le_succ _)
    refine hK.out _ _ g2 (fun _ => ?_)
    clear hK K ya yb yc yd ye yf yg yh
    (try simp only [Act.put, List.getElem_toArray, List.getElem_cons_succ, List.getElem_cons_zero, List.setIfInBounds_toArray, List.set_cons_zero, List.set_cons_succ])
    refine wpAnyH_done (by kernel_rfl) ?_ _
    go_wp2_with fail
    go_meet
    exact ⟨xA, cA, zA, dA, xB, cB, zB, dB, tq_of_wbN (st4_far f4.out (by omega)), tq_of_wbN (st4_wb f3.out), (st4_own oA1.out shA).rd, (st4_own oB1.out shB).rd, g2⟩
    go_simp
    refine hK.out _ _ hH.out (fun _ => ?_)
    clear hK K
    (try simp only [Act.put, List.getElem_toArray, List.getElem_cons_succ, List.getElem_cons_zero, List.setIfInBounds_toArray, List.set_cons_zero, List.set_cons_succ])
    refine wpAnyH_ready (rs := [1]) (by kernel_rfl) (by simp) (AllReadyH.cons rfl (fun K hK => ?_) AllReadyH.nil); go_simp
    refine hK.out _ _ hH.out (fun _ => ?_)
    clear hK K
    (try simp only [Act.put, List.getElem_toArray, List.getElem_cons_succ, List.getElem_cons_zero, List.setIfInBounds_toArray, List.set_cons_zero, List.set_cons_succ])
    refine wpAnyH_ready (rs := [2]) (by kernel_rfl) (by simp) (AllReadyH.cons rfl (fun K hK => ?_) AllReadyH.nil); go_simp
    refine (normalTable_any y x z _ _ _ S l F W m _ hsh.out hlh.out (hSh.out.below hH.out) hmF hF1.out.1 hF1.out.2 hW1.out.1 hW1.out.2 (hFh.out.below hH.out) (hWh.out.below hH.out)).mono ?_
    rintro e wA ⟨xA, cA, zA, dA, rfl, hoA, hbA⟩
    have hoA := Lib.hid hoA
    have hqA := Lib.hid (Below.via' hH.out hbA)
    have tA2 := Lib.hid (t2.out.below hbA)
    obtain ⟨s0, s1, s2, s3, sl⟩ := tA2.out
    refine hK.out _ _ hqA.out (fun _ => ?_)
    clear hK K
    (try simp only [Act.put, List.getElem_toArray, List.getElem_cons_succ, List.getElem_cons_zero, List.setIfInBounds_toArray, List.set_cons_zero, List.set_cons_succ])
    refine wpAnyH_ready (rs := [5]) (by kernel_rfl) (by simp) (AllReadyH.cons rfl (fun K hK => ?_) AllReadyH.nil); go_simp
    refine (normalTable_any y a b _ _ _ S k G U n _ hsh.out hl2h.out (hSh.out.below hqA.out) hmG hG1.out.1 hG1.out.2 hU1.out.1 hU1.out.2 (hGh.out.below hqA.out) (hUh.out.below hqA.out)).mono ?_
    rintro e wB ⟨xB, cB, zB, dB, rfl, hoB, hbB⟩
    have hoB := Lib.hid hoB
    have hqB := Lib.hid (Below.via' hqA.out hbB)
    refine hK.out _ _ hqB.out (fun _ => ?_)
    clear hK K p0 p1 p2 p3 r0 r1 r2 r3 s0 s1 s2 s3
    (try simp only [Act.put, List.getElem_toArray, List.getElem_cons_succ, List.getElem_cons_zero, List.setIfInBounds_toArray, List.set_cons_zero, List.set_cons_succ])
    have e1 := hbA.size
    have e2 := hbB.size
    have e0 : W2.drew.heap.size = W2.heap.size := rfl
    have f1 := Lib.hid ((q1h.out.kept hbA).kept hbB)
    have f2 := Lib.hid ((q2h.out.kept hbA).kept hbB)
    have oA := Lib.hid (hoA.out.below hbB)
    have oB := hoB
    have ya := f1.out.read 0
    have yb := f1.out.read 1
    have yc := f1.out.read 2
    have yd := f1.out.read 3
    have ye := f1.out.free 0
    have yf := f1.out.free 1
    have yg := f1.out.free 2
    have yh := f1.out.free 3
    have yin := f1.out.inside
    refine wpAnyH_ready (rs := [6]) (by kernel_rfl) (by simp) (AllReadyH.cons rfl (fun K hK => ?_) AllReadyH.nil); go_simp
    have g1 : Below w.heap.size w (st4 wB w.heap.size l xA F.length cA zA (nwL S W).length dA m) := st4_below hqB.out (Nat.le_refl _)
    refine hK.out _ _ g1 (fun _ => ?_)
    clear hK K ya yb yc yd ye yf yg yh
    (try simp only [Act.put, List.getElem_toArray, List.getElem_cons_succ, List.getElem_cons_zero, List.setIfInBounds_toArray, List.set_cons_zero, List.set_cons_succ])
    have f3 := Lib.hid (show Wb (st4 wB w.heap.size l xA F.length cA zA (nwL S W).length dA m) (w.heap.size + 1) _ _ from st4_far f2.out (by omega))
    obtain ⟨X1, hX1⟩ : ∃ X1, X1 = (st4 wB w.heap.size l xA F.length cA zA (nwL S W).length dA m) := ⟨_, rfl⟩
    have hX1b := hX1
    unfold st4 at hX1b
    rw [← hX1b]
    rw [← hX1] at g1 f3
    have f4 : Wb X1 w.heap.size 37 #[.int .i64 l, .slice xA F.length cA, .slice zA (nwL S W).length dA, .int .i64 m] := by rw [hX1]; exact st4_wb f1.out
    have eA1 : ∃ lo hi, (w.heap.size < lo ∨ hi ≤ w.heap.size) ∧ (w.heap.size + 1 < lo ∨ hi ≤ w.heap.size + 1) ∧ OwY wB lo hi (.slice xA F.length cA) (.slice zA (nwL S W).length dA) F (nwL S W) := ⟨_, _, Or.inl (by show w.heap.size < W2.heap.size; omega), Or.inl (by show w.heap.size + 1 < W2.heap.size; omega), oA.out⟩
    obtain ⟨loA, hiA, sgA, shA, pA⟩ := eA1
    have oA1 := st4_own (g := w.heap.size) (l := l) (x := xA) (n := F.length) (c := cA) (z := zA) (k := (nwL S W).length) (d := dA) (m := m) pA sgA
    rw [← hX1] at oA1
    clear pA
    replace oA1 := Lib.hid oA1
    have eB1 : ∃ lo hi, (w.heap.size < lo ∨ hi ≤ w.heap.size) ∧ (w.heap.size + 1 < lo ∨ hi ≤ w.heap.size + 1) ∧ OwY wB lo hi (.slice xB G.length cB) (.slice zB (nwL S U).length dB) G (nwL S U) := ⟨_, _, Or.inl (by omega), Or.inl (by omega), oB.out⟩
    obtain ⟨loB, hiB, sgB, shB, pB⟩ := eB1
    have oB1 := st4_own (g := w.heap.size) (l := l) (x := xA) (n := F.length) (c := cA) (z := zA) (k := (nwL S W).length) (d := dA) (m := m) pB sgB
    rw [← hX1] at oB1
    clear pB
    replace oB1 := Lib.hid oB1
    replace hX1 := Lib.hid hX1
    replace hX1b := Lib.hid hX1b
    replace f4 := Lib.hid f4
    have ya := f3.out.read 0
    have yb := f3.out.read 1
    have yc := f3.out.read 2
    have yd := f3.out.read 3
    have ye := f3.out.free 0
    have yf := f3.out.free 1
    have yg := f3.out.free 2
    have yh := f3.out.free 3
    have yin2 := f3.out.inside
    refine wpAnyH_ready (rs := [7]) (by kernel_rfl) (by simp) (AllReadyH.cons rfl (fun K hK => ?_) AllReadyH.nil); go_simp
    have g2 : Below w.heap.size w (st4 X1 (w.heap.size + 1) k xB G.length cB zB (nwL S U).length dB n) := st4_below g1 (Nat.le_succ _)
    refine hK.out _ _ g2 (fun _ => ?_)
    clear hK K ya yb yc yd ye yf yg yh
    (try simp only [Act.put, List.getElem_toArray, List.getElem_cons_succ, List.getElem_cons_zero, List.setIfInBounds_toArray, List.set_cons_zero, List.set_cons_succ])
    refine wpAnyH_done (by kernel_rfl) ?_ _
    go_wp2_with fail
    go_meet
    exact ⟨xA, cA, zA, dA, xB, cB, zB, dB, tq_of_wbN (st4_far f4.out (by omega)), tq_of_wbN (st4_wb f3.out), (st4_own oA1.out shA).rd, (st4_own oB1.out shB).rd, g2⟩
  obtain ⟨xA, cA, zA, dA, xB, cB, zB, dB, hTA, hTB, hRA, hRB, hBX⟩ := hcut
  obtain ⟨X, rfl⟩ : ∃ u : World, u = wc := ⟨_, rfl⟩
  replace hTA := Lib.hid hTA
  replace hTB := Lib.hid hTB
  replace hRA := Lib.hid hRA
  replace hRB := Lib.hid hRB
  obtain ⟨ta, tb, tc, td, te⟩ := hTA.out
  obtain ⟨ua, ub, uc, ud, ue⟩ := hTB.out
  by_cases h1 : l ≠ k
  · have hv := Lib.hid (smT_l (S := S) (F := F) (W := W) (m := m) (G := G) (U := U) (n := n) h1)
    have e1 : (l == k) = false := by rw [beq_eq_false_iff_ne]; exact h1
    replace h1 := Lib.hid h1
    go_wp2
    go_ret
    exact ⟨ret_sq hv.out.symm, hBX⟩
  replace h1 := Decidable.of_not_not h1
  have e1 : (l == k) = true := by rw [beq_iff_eq]; exact h1
  have h1h := Lib.hid h1
  clear h1
  by_cases h2 : m ≠ n
  · have hv := Lib.hid (smT_m (S := S) (l := l) (k := k) (F := F) (W := W) (G := G) (U := U) h2)
    have e2 : (m == n) = false := by rw [beq_eq_false_iff_ne]; exact h2
    replace h2 := Lib.hid h2
    go_wp2
    go_ret
    exact ⟨ret_sq hv.out.symm, hBX⟩
  replace h2 := Decidable.of_not_not h2
  have e2 : (m == n) = true := by rw [beq_iff_eq]; exact h2
  have h2h := Lib.hid h2
  clear h2
  go_wp2_with fail
  refine (equalI_any _ _ _ _ F G _ hmF hRA.out.1 hRB.out.1).mono ?_
  rintro e wE ⟨rfl, hbE⟩
  have hBE := Below.via' hBX hbE
  obtain ⟨va, vb, vc, vd, ve⟩ := hTA.out.below hbE
  obtain ⟨xa, xb, xc, xd, xe⟩ := hTB.out.below hbE
  clear ta tb tc td ua ub uc ud
  cases h3 : sqB F G
  · have hv := Lib.hid (smT_F (S := S) (l := l) (k := k) (m := m) (n := n) (W := W) (U := U) h3)
    replace h3 := Lib.hid h3
    go_wp2
    go_ret
    exact ⟨ret_sq hv.out.symm, hBE⟩
  have h3h := Lib.hid h3
  clear h3
  have hmW : (nwL S W).length ≤ 1048576 := by rw [nwL_len hlh.out]; omega
  go_wp2_with fail
  refine (equalI_any _ _ _ _ (nwL S W) (nwL S U) _ hmW (hRA.out.2.below hbE) (hRB.out.2.below hbE)).mono ?_
  rintro e wG ⟨rfl, hbG⟩
  have hBG := Below.via' hBE hbG
  obtain ⟨sa, sb, sc, sd, se⟩ := (hTA.out.below hbE).below hbG
  obtain ⟨ra, rb, rc, rd, re⟩ := (hTB.out.below hbE).below hbG
  clear va vb vc vd xa xb xc xd
  cases h4 : sqB (nwL S W) (nwL S U)
  · have hv := Lib.hid (smT_W (l := l) (k := k) (m := m) (n := n) (F := F) (G := G) h4)
    replace h4 := Lib.hid h4
    go_wp2
    go_ret
    exact ⟨ret_sq hv.out.symm, hBG⟩
  have h4h := Lib.hid h4
  clear h4
  have hv := Lib.hid (smT_yes h1h.out h2h.out h3h.out h4h.out)
  go_wp2
  go_ret
  exact ⟨ret_sq hv.out.symm, hBG⟩
end Go.Proofs.Ytpmbenedeakieaa
