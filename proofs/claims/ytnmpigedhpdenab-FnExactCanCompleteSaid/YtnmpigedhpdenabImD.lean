/-
  The walks of chapter 6: the program's iterator over completions, a range over the lists that pass within it; CanComplete and CompletionOf.
-/
import Derived.Test.YtnmpigedhpdenabImC
namespace Go.Proofs.Ytnmpigedhpdenab
open Go.RowKit Go.Shelf
set_option maxRecDepth 100000
attribute [local go_sem] Oper.semAt_some

theorem roundIn_free {F : Fence} (hd : F.depth = none) {m m' : Nat} {P : Program} {l : Nat} {f : FuncId} {tmps : Array Value} {assign body : Code} {w : World} {R : Ending → World → Prop}
    (h : RoundIn F m P l f tmps assign body w R) : RoundIn F m' P l f tmps assign body w R := ⟨h.1, fun c cs _ => h.2 c cs (fun d e => by rw [hd] at e; cases e)⟩
/-- What is handed to a round: the first completion. -/
def CmR (S : List (ByteArray × Int)) (M : List (List Int)) (F V : List Int) (nb N : Nat) (_ : List PR) (q : PR) (W : World) : Prop :=
  (∃ k : Nat, k < N ∧ coP S M F V k = true ∧ ftN (coP S M F V) k = none ∧ q.L = atL S k) ∧ W.ownsRow nb 3 1 q.v q.L.length (iC q.L)
theorem ft_none_of {p : Nat → Bool} {n : Nat} (h : ∀ k, k < n → p k = false) : ftN p n = none := by
  unfold ftN
  rw [List.find?_eq_none]
  intro k hk
  rw [h k (List.mem_range.1 hk)]
  exact Bool.false_ne_true
theorem co_below {S : List (ByteArray × Int)} {M : List (List Int)} {F V : List Int} {pre : List (List Int)} {n : Nat} (h : pre = psL S M n) (hall : ∀ x ∈ pre, agB F V x = false) : ftN (coP S M F V) n = none := by
  refine ft_none_of fun k hk => ?_
  rw [coP_eq]
  cases hf : faB M (atL S k)
  · have hm : atL S (k : Int) ∈ psL S M n := List.mem_map.2 ⟨k, psN_mem.2 ⟨hk, hf⟩, rfl⟩
    rw [← h] at hm
    rw [hall _ hm]
    rfl
  · rfl
theorem completions_any (x y f z : Option Addr) (l1 l2 l3 l4 c1 c2 c3 c4 : Nat) (w : World) :
    Calls Try.prog 141 #[.slice x l1 c1, .slice y l2 c2, .slice f l3 c3, .slice z l4 c4] w fun e w' => e = .returned (.func (.func 179) #[] #[.pointer (some ⟨w.heap.size, 0, none⟩), .pointer (some ⟨w.heap.size + 1, 0, none⟩), .pointer (some ⟨w.heap.size + 1 + 1 + 1, 0, none⟩), .pointer (some ⟨w.heap.size + 1 + 1, 0, none⟩)]) ∧ w' = (((w.alloc (.cells #[.slice x l1 c1] 54)).alloc (.cells #[.slice y l2 c2] 83)).alloc (.cells #[.slice f l3 c3] 23)).alloc (.cells #[.slice z l4 c4] 23) := by
  go_enter Try.func141, Try.ntmps141
  go_wp2
  go_ret
  exact ⟨rfl, rfl⟩
set_option maxHeartbeats 8000000 in
theorem co_rows (B1 B2 BV BF nb : Nat) (x y f z : Option Addr) (c1 c2 c3 c4 : Nat) (S : List (ByteArray × Int)) (Q : List PR) (F V : List Int) (w W0 : World) (hg : cgG S (eM Q) F V = true) (hS : SIn w x c1 S) (hQ : EIn w y Q) (hF : IIn w f F) (hV : IIn w z V) (N : Nat) (hN : cnZ S = (N : Int)) (hN2 : N ≤ 262144) (hB0 : Below w.heap.size w W0) (hnb0 : nb ≤ W0.heap.size)
    (h1z : Boxed W0 B1 54 (.slice x S.length c1)) (h2z : Boxed W0 B2 83 (.slice y Q.length c2)) (h3z : Boxed W0 BV 23 (.slice z V.length c4)) (h4z : Boxed W0 BF 23 (.slice f F.length c3)) :
    RowSeq 4 Try.prog 179 #[.pointer (some ⟨B1, 0, none⟩), .pointer (some ⟨B2, 0, none⟩), .pointer (some ⟨BV, 0, none⟩), .pointer (some ⟨BF, 0, none⟩)] (fun q : PR => q.v) (fun _ _ => False) (CmR S (eM Q) F V nb N) (fun ys => ys = [] ∧ ftN (coP S (eM Q) F V) N = none) W0 := by
  intro lo J Jx W hW hJ hJx hY h0
  obtain ⟨g1, g2, g3⟩ := cg_get hg
  have hel := Lib.hid (sm_get g1).1
  have hat := Lib.hid (fun v (hv : v ∈ F) => fit_at g3 g2 hv)
  have hB := hB0.trans (hW.mono hB0.size)
  have hnb := Nat.le_trans hnb0 hW.size
  have h1 := boxed_below h1z hW
  have h2 := boxed_below h2z hW
  have h3 := boxed_below h3z hW
  have h4 := boxed_below h4z hW
  have hwW := hB.size
  have l1 := h1.lt
  have l2 := h2.lt
  have l3 := h3.lt
  have l4 := h4.lt
  have hFh := Lib.hid (hF.below hB)
  have hVh := Lib.hid (hV.below hB)
  have hYh := Lib.hid hY
  have hJh := Lib.hid hJ
  have hJxh := Lib.hid hJx
  have bY := ((Boxed.new W 102 (.func (.yield lo) #[] #[])).alloc (.cells #[.slice x S.length c1] 54)).alloc (.cells #[.slice y Q.length c2] 83)
  have bS := (Boxed.new (W.alloc (.cells #[.func (.yield lo) #[] #[]] 102)) 54 (.slice x S.length c1)).alloc (.cells #[.slice y Q.length c2] 83)
  have bQ := Boxed.new ((W.alloc (.cells #[.func (.yield lo) #[] #[]] 102)).alloc (.cells #[.slice x S.length c1] 54)) 83 (.slice y Q.length c2)
  simp only [World.size_alloc] at bS bQ
  have hbW : Below W.heap.size W (((W.alloc (.cells #[.func (.yield lo) #[] #[]] 102)).alloc (.cells #[.slice x S.length c1] 54)).alloc (.cells #[.slice y Q.length c2] 83)) := (by repeat (first | exact Below.refl _ _ | assumption | refine Below.drew ?_ | refine below_drewN ?_ _ | refine Below.alloc' ?_ _ | (refine Below.setCell ?_ (by first | omega | (simp; done) | (simp; omega) | exact Below.size (by assumption) | exact Nat.le_trans (Below.size (by assumption)) (by simp)) _) | (refine Below.via' ?_ (by assumption)) | (refine Below.alloc ?_ (by first | omega | (simp; done) | (simp; omega) | exact Below.size (by assumption) | exact Nat.le_trans (Below.size (by assumption)) (by simp)) _) | (refine Below.via ?_ (by assumption) (by first | omega | (simp; done) | (simp; omega) | exact Below.size (by assumption) | exact Nat.le_trans (Below.size (by assumption)) (by simp)))))
  have hj0 : J [] (((W.alloc (.cells #[.func (.yield lo) #[] #[]] 102)).alloc (.cells #[.slice x S.length c1] 54)).alloc (.cells #[.slice y Q.length c2] 83)) := hJ.alloc _ (hJ.alloc _ (hJ.alloc _ h0))
  have k1 := (h1.alloc (.cells #[.func (.yield lo) #[] #[]] 102)).cell
  have k2 := (h2.alloc (.cells #[.func (.yield lo) #[] #[]] 102)).cell
  clear h1z h2z h3z h4z hB0 hnb0 hW hF hV hg g1 g2 g3 hY hJ hJx h0
  refine callsIn_of_wp_marks Try.func179 rfl trivial ?_ rfl
  simp only [Try.ntmps179, List.size_toArray, List.length_cons, List.length_nil, Nat.reduceAdd, Nat.reduceSub, Array.replicate_succ, Array.replicate_zero, List.push_toArray, List.append_toArray, List.nil_append, List.cons_append]
  gi_wp2_with fail
  refine ⟨trivial, ?_⟩
  refine (callsIn_wide.2 (passingValues_any _ _ _ _ _ _ _)).mono ?_
  rintro e w4 ⟨rfl, rfl⟩
  simp only [World.size_alloc]
  obtain ⟨W1, hW1⟩ : ∃ W1, ((W.alloc (.cells #[.func (.yield lo) #[] #[]] 102)).alloc (.cells #[.slice x S.length c1] 54)).alloc (.cells #[.slice y Q.length c2] 83) = W1 := ⟨_, rfl⟩
  have hsz : W1.heap.size = W.heap.size + 3 := by rw [← hW1]; simp
  rw [hW1] at bY bS bQ hbW hj0 ⊢
  have hB1 : Below w.heap.size w W1 := hB.trans (hbW.mono hwW)
  have hit := Lib.hid (pv_rows 3 (by omega) (W.heap.size + 1) (W.heap.size + 1 + 1) W.heap.size nb x y c1 c2 S Q w W1 hel.out hS hQ hwW N hN hN2 hB1 (by omega) bS bQ)
  clear hW1 k1 k2 hS hQ hN bS bQ
  gi_wp2
  refine range_rows (by omega) (gf := 197) (lb := #[.pointer (some ⟨W.heap.size + 1, 0, none⟩), .pointer (some ⟨W.heap.size + 1 + 1, 0, none⟩)]) rfl (enters_of Try.func197 (by kernel_rfl) rfl) rfl
    (fun q : PR => q.v) (Kp2 W.heap.size (W.heap.size + 1) (W.heap.size + 1 + 1)) (PsR S (eM Q) nb N) (fun ys => eM ys = psL S (eM Q) N) hit.out (Below.refl _ _)
    (fun _ _ _ h k => ⟨h.1.trans k.1, k.2.1.trans h.2.1, k.2.2.trans h.2.2⟩) (fun _ X l o o' hl hlo hc hw => ⟨belowK_b (w := W1) hbW.size X l o o' hl hlo hc hw, World.putObj_heap_other (by intro e; omega), World.putObj_heap_other (by intro e; omega)⟩)
    (fun pre X => ((J [] X ∧ Boxed X W.heap.size 102 (.func (.yield lo) #[] #[])) ∧ Below W.heap.size W X) ∧ (∀ u ∈ eM pre, agB F V u = false) ∧ W1.heap.size ≤ X.heap.size)
    (fun _ X => ∃ q, Jx [q] X)
    (OwnFrom.and (OwnFrom.and (OwnFrom.and (fun _ A B row hs hgr hr => hJh.out [] A B row hs hgr (fun r e => ⟨by have := (hr r e).1; omega, (hr r e).2⟩)) (Own.from (boxed_own W.heap.size 102 (fun _ => .func (.yield lo) #[] #[])) _)) (ownFrom_below (Nat.le_refl _) hbW.size)) (OwnFrom.and (ownFrom_pure _ (fun pre => ∀ u ∈ eM pre, agB F V u = false)) (fun _ A B row hs hgr _ => Nat.le_trans hs hgr.size)))
    (fun _ A B row hs hgr hr => by obtain ⟨q, hq⟩ := hs; exact ⟨q, hJxh.out [q] A B row hq hgr (fun r e => ⟨by have := (hr r e).1; omega, (hr r e).2⟩)⟩)
    ⟨⟨⟨hj0, bY⟩, hbW⟩, (fun u hu => by cases hu), Nat.le_refl _⟩
    (fun pre q a' X => (∃ BP, W1.heap.size ≤ BP ∧ Boxed X BP 23 q.v ∧ a' = { tmps := #[.func (.yield lo) #[] #[], .pointer (some ⟨B1, 0, none⟩), .pointer (some ⟨B2, 0, none⟩), .pointer (some ⟨BV, 0, none⟩), .pointer (some ⟨BF, 0, none⟩), .pointer (some ⟨W.heap.size, 0, none⟩), .pointer (some ⟨BP, 0, none⟩), undef, .slice x S.length c1, .slice y Q.length c2, .func (.func 197) #[] #[.pointer (some ⟨W.heap.size + 1, 0, none⟩), .pointer (some ⟨W.heap.size + 1 + 1, 0, none⟩)], q.v, undef, undef, undef, undef, undef, undef, undef, undef, undef, undef, undef], defers := [] } ∧ (∃ k : Nat, k < N ∧ faB (eM Q) (atL S k) = false ∧ eM pre = psL S (eM Q) k ∧ q.L = atL S k)) ∧ X.ownsRow nb 3 1 q.v q.L.length (iC q.L))
    (fun pre q a' _ A B row hs hgr hr => ⟨(by obtain ⟨BP, h1, h2, h3⟩ := hs.1; exact ⟨BP, h1, boxed_own BP 23 (fun _ : Unit => q.v) () A B row h2 hgr (fun r e => (hr r e).2), h3⟩), own_cells hs.2 hgr (fun r e => (hr r e).2)⟩)
    ?assign ?body ?done ?stop
  case assign =>
    rintro l pre ⟨qa, qh, qx, qc, qL⟩ X K ⟨⟨⟨hj, hb⟩, hBX⟩, hag, hXW⟩ ⟨hk, hrow⟩ hK
    dsimp only [PR.v] at hrow ⊢
    have hXs := hBX.size
    have hbl : Below W.heap.size X (X.alloc (.cells #[(.slice qx qL.length qc)] 23)) := (Below.refl _ X).alloc hXs _
    have hblX : Below X.heap.size X (X.alloc (.cells #[(.slice qx qL.length qc)] 23)) := (Below.refl _ X).alloc (Nat.le_refl _) _
    have hbn := Boxed.new X 23 (.slice qx qL.length qc)
    have hjn := hJh.out.alloc (.cells #[(.slice qx qL.length qc)] 23) hj
    have hbb := hb.alloc (.cells #[(.slice qx qL.length qc)] 23)
    have hlt := hb.lt
    have hrown := hrow.alloc (.cells #[(.slice qx qL.length qc)] 23)
    have hkh := Lib.hid hk
    have hKh := Lib.hid hK
    clear hj hb hrow hk hK
    gi_wp2
    refine hKh.out _ _ ((KeepsOthers.alloc _ _).from _) (fun _ => ⟨hbl, hblX.block _ (by omega), hblX.block _ (by omega)⟩) ⟨⟨⟨hjn, hbb⟩, hBX.trans hbl⟩, hag, Nat.le_trans hXW hblX.size⟩ ⟨⟨X.heap.size, by omega, hbn, by first | rfl | simp, hkh.out⟩, hrown⟩
  case body =>
    rintro l pre ⟨qa, qh, qx, qc, qL⟩ a' X hl ⟨r, hr⟩ ⟨⟨⟨hj, hb⟩, hBX⟩, hag, hXW⟩ ⟨⟨BP, hBP, hbp, rfl, k, hk, hfa, hpre, hq⟩, hrow⟩
    dsimp only [PR.v] at hbp hrow
    subst hq
    have hXs := hBX.size
    have hBw : Below w.heap.size w X := hB.trans (hBX.mono hwW)
    have b1 := (hBX.block BV l3).trans h3
    have b2 := (hBX.block BF l4).trans h4
    have hlY := hb.lt
    have hlP := hbp.lt
    have hsh := (el_get hel.out).1
    have hin := Lib.hid (atL_iin (S := S) hsh (show (0 : Int) ≤ (k : Int) by omega) (Rd.of_own hrow))
    have hal := Lib.hid (atL_len S (k : Int))
    have p1 := Boxed.cell b1
    have p2 := Boxed.cell b2
    have p3 := hb.cell
    have p4 := hbp.cell
    have hath := Lib.hid (show ∀ v ∈ F, ∃ n : Nat, v = (n : Int) ∧ n < (atL S (k : Int)).length ∧ n < V.length by rw [hal.out]; exact hat.out)
    have hcf := Lib.hid (containsFunc_any BP BV qx z f qc c4 c3 (atL S (k : Int)) V F X hbp b1 hin.out (hVh.out.below hBX) (hFh.out.below hBX) hath.out)
    have hjh := Lib.hid hj
    have hbh := Lib.hid hb
    have hbph := Lib.hid hbp
    have hrowh := Lib.hid hrow
    have hpreh := Lib.hid hpre
    have hagh := Lib.hid hag
    clear hj hb hbp hrow hpre hag b1 b2
    gi_wp2_with fail
    refine ⟨trivial, ?_⟩
    refine (CallsIn.inRound l (callsIn_wide.2 hcf.out)).mono ?_
    rintro e X2 ⟨rfl, hb2⟩
    have hB2 : Below W.heap.size W X2 := hBX.trans (hb2.mono hXs)
    have hj2 := Lib.hid (hJh.out [] _ _ none hjh.out (grown_belowE hb2) (by intro r hr; cases hr))
    have hy2 : Boxed X2 W.heap.size 102 (.func (.yield lo) #[] #[]) := (hb2.block _ hlY).trans hbh.out
    have hp2 : Boxed X2 BP 23 (.slice qx (atL S (k : Int)).length qc) := (hb2.block _ hlP).trans hbph.out
    have q3 := hy2.cell
    have q4 := hp2.cell
    have hrow2 := Lib.hid (own_below hrowh.out hb2)
    have hkf2 : KeepsFrom W1.heap.size X X2 := KeepsFrom.of_grownBy (grown_belowE hb2) (by intro j hj; cases hj)
    cases hagk : agB F V (atL S (k : Int))
    · gi_wp2
      refine ⟨(fun f h => by cases h), ?_⟩
      gi_wp2
      refine rowPost_on hkf2 ⟨hb2.mono hXs, hb2.block _ (by omega), hb2.block _ (by omega)⟩ ⟨⟨⟨hj2.out, hy2⟩, hB2⟩, fun u hu => ?_, Nat.le_trans hXW hb2.size⟩
      rw [eM_app] at hu
      rcases List.mem_append.1 hu with h | h
      · exact hagh.out u h
      · obtain rfl := List.mem_singleton.1 h
        exact hagk
    · have hR2 := hYh.out [] ⟨0, 0, qx, qc, atL S (k : Int)⟩ X2 hj2.out ⟨⟨k, hk, by rw [coP_eq, hfa, hagk]; rfl, co_below hpreh.out hagh.out, rfl⟩, hrow2.out⟩
      obtain ⟨fn, tmps, assign, body, hy, hR⟩ := hR2
      try dsimp only [PR.v] at hy
      gi_wp2
      refine (roundIn_free rfl hR).mono ?_
      rintro e X3 ⟨hk3, ⟨rfl, -, hf⟩ | ⟨rfl, hx⟩⟩
      · exact hf.elim
      · gi_wp2
        exact rowPost_ret (hkf2.trans (keeps_mono hk3 (by omega))) ⟨_, hx⟩
  case done =>
    rintro ys X hS ⟨⟨⟨hj, hb⟩, hBX⟩, hag, hXW⟩ hK
    have hfin := Lib.hid (co_below hS hag)
    have hjh := Lib.hid hj
    clear hj hb hag hS
    gi_wp2
    refine ⟨by simp, .inl ⟨_, _, rfl, run_takeDeferred hK, ?_⟩⟩
    exact ⟨_, results_none rfl _ _ _, ⟨_, rfl⟩, .inl ⟨[], ⟨rfl, hfin.out⟩, hJh.out.putObj _ hjh.out hbW.size hK rfl⟩⟩
  case stop =>
    rintro pre X ⟨q, hq⟩ hK
    have hqh := Lib.hid hq
    clear hq
    gi_wp2
    refine ⟨by simp, .inl ⟨_, _, rfl, run_takeDeferred hK, ?_⟩⟩
    exact ⟨_, results_none rfl _ _ _, ⟨_, rfl⟩, .inr ⟨[q], hJxh.out.putObj _ hqh.out hbW.size hK rfl⟩⟩
end Go.Proofs.Ytnmpigedhpdenab
