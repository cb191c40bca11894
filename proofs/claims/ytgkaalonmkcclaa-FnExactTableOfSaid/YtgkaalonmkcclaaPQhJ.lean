import Derived.Test.YtgkaalonmkcclaaPQhI
import Derived.Test.YtgkaalonmkcclaaPQhH
namespace Go.Proofs.Ytgkaalonmkcclaa
open Go.RowKit Go.Shelf
set_option maxRecDepth 100000
attribute [local go_sem] Oper.semAt_some

/-- A place below n and a number of at most 1000. -/
abbrev ToI (n : Nat) := { p : Nat × Int // p.1 < n ∧ -1000 ≤ p.2 ∧ p.2 ≤ 1000 }
def toM {n : Nat} (pre : List (ToI n)) : List (Nat × Int) := pre.map (·.1)
/-- Numbers, each added to the sum at its place. -/
def toF (Z : List Int) (ps : List (Nat × Int)) : List Int := ps.foldl (fun X p => X.set p.1 (X.getD p.1 0 + p.2)) Z
theorem toF_snoc (Z : List Int) (ps : List (Nat × Int)) (p : Nat × Int) : toF Z (ps ++ [p]) = (toF Z ps).set p.1 ((toF Z ps).getD p.1 0 + p.2) := by unfold toF; rw [List.foldl_append]; rfl
theorem toF_len (Z : List Int) (ps : List (Nat × Int)) : (toF Z ps).length = Z.length := by
  refine rev_ind (P := fun ps => (toF Z ps).length = Z.length) rfl (fun r k ih => ?_) ps
  rw [toF_snoc, List.length_set]
  exact ih
theorem toF_bd {n : Nat} (k : Nat) (ps : List (ToI n)) : ∀ j, -1000 * (ps.length : Int) ≤ (toF (List.replicate k 0) (toM ps)).getD j 0 ∧ (toF (List.replicate k 0) (toM ps)).getD j 0 ≤ 1000 * (ps.length : Int) := by
  refine rev_ind (P := fun ps => ∀ j, -1000 * (ps.length : Int) ≤ (toF (List.replicate k 0) (toM ps)).getD j 0 ∧ (toF (List.replicate k 0) (toM ps)).getD j 0 ≤ 1000 * (ps.length : Int)) (fun j => ?_) (fun r x ih j => ?_) ps
  · have e : (List.replicate k (0 : Int)).getD j 0 = 0 := by
      rw [List.getD_eq_getElem?_getD, List.getElem?_replicate]
      split <;> rfl
    show _ ≤ (List.replicate k (0 : Int)).getD j 0 ∧ (List.replicate k (0 : Int)).getD j 0 ≤ _
    rw [e]
    simp
  · rw [show toM (r ++ [x]) = toM r ++ [x.1] by unfold toM; rw [List.map_append]; rfl, toF_snoc, List.getD_eq_getElem?_getD, List.getElem?_set]
    have h1 := ih j
    have h2 := ih x.1.1
    have h3 := x.2
    simp only [List.length_append, List.length_cons, List.length_nil]
    split
    · split
      · simp only [Option.getD_some]
        omega
      · simp only [Option.getD_none]
        omega
    · rw [← List.getD_eq_getElem?_getD]
      omega
set_option maxHeartbeats 4000000 in
theorem sumsOne_any (gf : Nat) (lb : Array Value) (g0 n N : Nat) (L : List (Nat × Int)) (w : World) (hn6 : n ≤ 600) (hN : N ≤ 1000) (hent : ∀ args w, (callFunc gf args).run Try.prog w = .ok (.enter gf args) w)
    (hseq : ∀ W0, Below w.heap.size w W0 → SeqStopsK Fence.wide 4 Try.prog gf lb (fun x : ToI n => #[.int .i64 (x.1.1 : Int), .int .i64 x.1.2]) (fun X Y => Below w.heap.size X Y) (fun ys => toM ys = L) (fun _ => True) N W0)
    (hg : g0 < w.heap.size) (hg0 : w.cell? ⟨g0, 0, none⟩ = some (.func (.func gf) #[] lb)) :
    Calls Try.prog 86 #[.int .i64 n, .slice (some ⟨g0, 0, none⟩) 1 1] w fun e w' => ∃ u, e = .returned u ∧ w'.ownsRow w.heap.size 3 1 u n (iC (toF (List.replicate n 0) L)) ∧ Below w.heap.size w w' := by
  obtain ⟨i0, hi, hz0, hz1, hz2⟩ := info_parts Try.infoInt
  have hg0h := Lib.hid hg0
  have hseqh := Lib.hid hseq
  clear hg0 hseq
  have hbbt : i0.bytes * n ≤ 281474976710656 := by rw [hz2]; omega
  have hmm : n ≤ maxLen := by unfold maxLen; omega
  refine (callsIn_wide (n := 5)).1 ?_
  refine callsIn_of_wp_marks Try.func86 rfl trivial ?_ rfl
  simp only [Try.ntmps86, List.size_toArray, List.length_cons, List.length_nil, Nat.reduceAdd, Nat.reduceSub, Array.replicate_succ, Array.replicate_zero, List.push_toArray, List.append_toArray, List.nil_append, List.cons_append]
  refine wpIn_wide.2 ?_
  go_wp2_with (at_make; go_loud (refine wpList_make_full _ rfl _ _ 22 rfl w.heap.size 3 i0 (.int .i64 0) 1 Try.underlying22 hi hz0 hz1 .i64 .i64 _ _ n rfl rfl rfl rfl hbbt hmm (Nat.le_refl _) (fun w1 hown hgrow => ?_)))
  have hb1 : Below w.heap.size w w1 := (Below.refl _ _).grown hgrow (Nat.le_refl _) (by intro k hk; cases hk)
  rw [made_zeros] at hown
  clear hgrow hi hz0 hz1 hz2 hbbt hmm
  have hw1 := (own_lt hown).2
  have bV := (Boxed.new w1 22 (.slice (some ⟨w.heap.size, 0, none⟩) n n))
  have bR := (hown.alloc (.cells #[.slice (some ⟨w.heap.size, 0, none⟩) n n] 22))
  have hbV := Lib.hid bV
  have hbR := Lib.hid bR
  have hbA : Below w.heap.size w (w1.alloc (.cells #[.slice (some ⟨w.heap.size, 0, none⟩) n n] 22)) := (by repeat (first | exact Below.refl _ _ | assumption | refine Below.drew ?_ | refine below_drewN ?_ _ | refine Below.alloc' ?_ _ | (refine Below.setCell ?_ (by first | omega | (simp; done) | (simp; omega) | exact Below.size (by assumption) | exact Nat.le_trans (Below.size (by assumption)) (by simp)) _) | (refine Below.via' ?_ (by assumption)) | (refine Below.alloc ?_ (by first | omega | (simp; done) | (simp; omega) | exact Below.size (by assumption) | exact Nat.le_trans (Below.size (by assumption)) (by simp)) _) | (refine Below.via ?_ (by assumption) (by first | omega | (simp; done) | (simp; omega) | exact Below.size (by assumption) | exact Nat.le_trans (Below.size (by assumption)) (by simp)))))
  clear bV bR hown hb1
  go_wp2
  have hg0h' := hg0h.out
  have hbs := hbA.size
  have hBs := hbA
  replace hbA := Lib.hid hbA
  have c0 := (hBs.cell (p := ⟨g0, 0, none⟩) hg).trans hg0h'
  clear hg0h'
  refine wp_loop_rounds 2 ?_
  rw [rounds_succ]
  go_wp2
  have hB0 := hBs
  have hs0 : (w1.alloc (.cells #[.slice (some ⟨w.heap.size, 0, none⟩) n n] 22)).heap.size = w1.heap.size + 1 := by simp
  obtain ⟨W0, hW0⟩ : ∃ W0, w1.alloc (.cells #[.slice (some ⟨w.heap.size, 0, none⟩) n n] 22) = W0 := ⟨_, rfl⟩
  rw [hW0] at hbV hbR hbs hBs hbA c0 hB0 hs0 ⊢
  clear hW0 hbA c0 hBs
  refine (wpIn_wide (n := 5)).1 ?_
  refine wpIn_rangeFunc_ownH (F := Fence.wide) (n := 5) rfl (by omega) (gf := gf) (lb := lb) rfl trivial hent
    (hseqh.out W0 hB0)
    (fun h k => h.trans k) (fun W l o o' hl hlo hc hw => belowK_b (w := w) (Nat.le_refl _) W l o o' (by omega) hlo hc hw) (Below.refl _ _) (fun _ => rfl)
    (fun pre W => (Boxed W w1.heap.size 22 (.slice (some ⟨w.heap.size, 0, none⟩) n n) ∧ W.ownsRow w.heap.size 3 1 (.slice (some ⟨w.heap.size, 0, none⟩) n n) n (iC (toF (List.replicate n 0) (toM pre)))) ∧ Below w.heap.size w W)
    (fun _ _ _ => False)
    (OwnFrom.and (OwnFrom.and (Own.from (boxed_own _ _ _) _) (Own.from (row_own _ _ _ _ _ _ _) _)) (ownFrom_below (Nat.le_refl _) hbs))
    (fun _ _ _ _ _ hs _ _ => hs)
    ⟨⟨hbV.out, hbR.out⟩, hB0⟩
    (fun z a' _ => a' = { tmps := #[.int .i64 n, .slice (some ⟨g0, 0, none⟩) 1 1, undef, undef, .slice none 0 0, .pointer (some ⟨w1.heap.size, 0, none⟩), undef, .func (.func gf) #[] lb, .int .i64 (z.1.1 : Int), .int .i64 (z.1.2), .int .i64 n, .slice (some ⟨w.heap.size, 0, none⟩) n n, .slice (some ⟨g0, 0, none⟩) 1 1, .int .i64 1, .int .i64 0, .bool true, .pointer (some ⟨g0, 0, none⟩), .func (.func gf) #[] lb, .func (.func gf) #[] lb, .int .i64 (z.1.1 : Int), .int .i64 (z.1.2), undef, undef, undef, undef, undef, undef, undef, undef, undef], defers := [] })
    (fun z a' _ X Y row hs hg hr => hs)
    ?assign ?body ?done ?stop
  case assign =>
    rintro l pre z W K ⟨⟨b1, r1⟩, hB1⟩ hK
    gi_wp2
    exact hK _ _ (KeepsFrom.refl _ W) (Below.refl _ _) ⟨⟨b1, r1⟩, hB1⟩ rfl
  case body =>
    rintro l pre z a' W hl ⟨r, hr⟩ ⟨⟨b1, r1⟩, hB1⟩ rfl hlt
    have c1 := b1.cell
    obtain ⟨hz, hz2, hz3⟩ := z.2
    have k0 := own_intA r1 hz
    have k2 := r1.frozenAt z.1.1
    have q1 := toF_bd n pre z.1.1
    have hzi : (z.1.1 : Int) < (n : Int) := by omega
    have t3 : wrap64 ((toF (List.replicate n 0) (toM pre)).getD z.1.1 0 + z.1.2) = (toF (List.replicate n 0) (toM pre)).getD z.1.1 0 + z.1.2 := IntWalk.wrap64_in _ (by omega)
    have hst : toF (List.replicate n 0) (toM (pre ++ [z])) = (toF (List.replicate n 0) (toM pre)).set z.1.1 ((toF (List.replicate n 0) (toM pre)).getD z.1.1 0 + z.1.2) := by
      rw [show toM (pre ++ [z]) = toM pre ++ [z.1] by unfold toM; rw [List.map_append]; rfl]
      exact toF_snoc _ _ _
    have hpost := Lib.hid (ac_post (Bs := w1.heap.size) W0.heap.size b1 r1 hB1 (Nat.le_refl _) (by omega) (by omega) z.1.1 ((toF (List.replicate n 0) (toM pre)).getD z.1.1 0 + z.1.2))
    replace hst := Lib.hid hst
    replace t3 := Lib.hid t3
    clear hl hr b1 r1 hB1 q1 hlt
    gi_wp2
    rw [← List.getD_eq_getElem?_getD, t3.out]
    refine ⟨hpost.out.1, hpost.out.2.1.1, ?_⟩
    simp only [hst.out]
    exact hpost.out.2.2
  case done =>
    rintro D ys W hD hys ⟨⟨b1, r1⟩, hB1'⟩ hK
    rw [hys] at r1
    have d1 := b1.cell
    have hr2 := Lib.hid r1
    have hKh := Lib.hid hK
    clear b1 r1 hys hbV hbR hB0 hK
    go_wp2
    rw [rounds_succ]
    go_wp2
    refine ⟨by simp, .inl ⟨_, _, rfl, run_takeDeferred hKh.out, ?_⟩⟩
    refine ⟨.slice (some ⟨w.heap.size, 0, none⟩) n n, by simp [results, Try.results86, go_sem], _, rfl, ?_, ?_⟩
    · exact ownsRow_putObj hr2.out (.deferred none) hKh.out rfl
    · exact hB1'.trans (belowK_b (w := w) (Nat.le_refl _) W D _ _ (by omega) hKh.out rfl rfl)
  case stop =>
    rintro D c pre W _ _ h _
    exact h.elim
end Go.Proofs.Ytgkaalonmkcclaa

namespace Go.Proofs.Ytgkaalonmkcclaa
open Go.RowKit Go.Shelf
set_option maxRecDepth 100000

section
variable {P : List Int} {S : List (ByteArray × Int)} {l : Int} {F W : List Int} {m : Int} {k : Nat} {V : List Int}
/-- A record's cell is one of the table's, or -1; its amount is small. -/
theorem clI_bd (h : TgP P S l F W m) (c : ClP P S k V) : -1 ≤ clI P S l F W (k : Int) V ∧ clI P S l F W (k : Int) V < tcZ P S l F := by
  have h1 := tc_pos h
  by_cases ha : 0 ≤ anZ P k l ∧ tmB W V = true
  · rw [clp_yes ha.1 ha.2]
    obtain ⟨i, hi, -, hlt⟩ := fdI_mem (an_lv h.g c.a ha.1)
    obtain ⟨p0, p1⟩ := pt_ix (tbS_ok h.s h.r) (tbV_fit c.f h.r)
    unfold ceZ tcZ
    rw [hi]
    have e1 : ((i : Int) + 1) * cnZ (tbS S F) ≤ ((lvL P l).length : Int) * cnZ (tbS S F) := Int.mul_le_mul_of_nonneg_right (by omega) (by omega)
    have e2 : 0 ≤ (i : Int) * cnZ (tbS S F) := Int.mul_nonneg (by omega) (by omega)
    rw [Int.add_mul, Int.one_mul] at e1
    omega
  · rw [(clp_no (m := m) ha).1]
    omega
theorem clN_bd (h : TgP P S l F W m) (c : ClP P S k V) : -1000 ≤ clN P l W m (k : Int) V ∧ clN P l W m (k : Int) V ≤ 1000 := by
  by_cases ha : 0 ≤ anZ P k l ∧ tmB W V = true
  · by_cases hm : m < 0
    · rw [clp_one ha.1 ha.2 hm]
      omega
    · have h1 := h.m1
      have hlt : m.toNat < S.length := by omega
      have hV : m.toNat < V.length := by rw [fit_len c.f]; exact hlt
      obtain ⟨⟨nm, lv⟩, hp⟩ : ∃ p, S[m.toNat]? = some p := ⟨_, List.getElem?_eq_getElem hlt⟩
      rw [clp_val ha.1 ha.2 (by omega) (List.getElem?_eq_getElem hV)]
      have := fit_get c.f hp (List.getElem?_eq_getElem hV)
      have := schB_lv h.s hp
      omega
  · rw [(clp_no (S := S) (F := F) ha).2]
    omega
end
/-- Record j's cell and amount; what the first j records hand over; the table; whether there is one. -/
def toIx (P : List Int) (S : List (ByteArray × Int)) (l : Int) (F W : List Int) (M : List RV) (j : Nat) : Int := (M[j]?.map fun r => clI P S l F W r.1 r.2.2).getD (-1)
def toNx (P : List Int) (l : Int) (W : List Int) (m : Int) (M : List RV) (j : Nat) : Int := (M[j]?.map fun r => clN P l W m r.1 r.2.2).getD 0
def toP (P : List Int) (S : List (ByteArray × Int)) (l : Int) (F W : List Int) (m : Int) (M : List RV) : Nat → List (Nat × Int)
  | 0 => []
  | j + 1 => if toIx P S l F W M j = -1 then toP P S l F W m M j else toP P S l F W m M j ++ [((toIx P S l F W M j).toNat, toNx P l W m M j)]
def toB (P : List Int) (S : List (ByteArray × Int)) (l : Int) (F W : List Int) (m : Int) (M : List RV) : Bool := tgB P S l F W m && (dokB S M && tyB P M)
def toL (P : List Int) (S : List (ByteArray × Int)) (l : Int) (F W : List Int) (m : Int) (M : List RV) : List Int := eIf (toB P S l F W m M) (toF (List.replicate (tcZ P S l F).toNat 0) (toP P S l F W m M M.length))
section
variable {P : List Int} {S : List (ByteArray × Int)} {l : Int} {F W : List Int} {m : Int} {M : List RV} {j : Nat}
theorem toP_skip (h : toIx P S l F W M j = -1) : toP P S l F W m M (j + 1) = toP P S l F W m M j := if_pos h
theorem toP_take (h : toIx P S l F W M j ≠ -1) : toP P S l F W m M (j + 1) = toP P S l F W m M j ++ [((toIx P S l F W M j).toNat, toNx P l W m M j)] := if_neg h
theorem toIx_at {Q : List PR} {q : PR} (h : Q[j]? = some q) : toIx P S l F W (pM Q) j = clI P S l F W q.a q.L := by
  unfold toIx
  rw [pM_at h]
  rfl
theorem toNx_at {Q : List PR} {q : PR} (h : Q[j]? = some q) : toNx P l W m (pM Q) j = clN P l W m q.a q.L := by
  unfold toNx
  rw [pM_at h]
  rfl
theorem toP_len : ∀ j, (toP P S l F W m M j).length ≤ j
  | 0 => Nat.le_refl _
  | j + 1 => by
    have ih := toP_len j
    unfold toP
    split
    · omega
    · rw [List.length_append]
      simp only [List.length_cons, List.length_nil]
      omega
theorem to_no0 (h : toB P S l F W m M = false) : toL P S l F W m M = [] := eIf_f h
theorem to_no1 (h : tgB P S l F W m = false) : toB P S l F W m M = false := by unfold toB; rw [h]; rfl
theorem to_no2 (h : (dokB S M && tyB P M) = false) : toB P S l F W m M = false := by unfold toB; rw [h, Bool.and_false]
theorem to_yes (h : TgP P S l F W m) (h2 : (dokB S M && tyB P M) = true) : toB P S l F W m M = true ∧ toL P S l F W m M = toF (List.replicate (tcZ P S l F).toNat 0) (toP P S l F W m M M.length) := by
  have e : toB P S l F W m M = true := by unfold toB; rw [tg_iff.2 h, h2]; rfl
  exact ⟨e, eIf_t e⟩
theorem to_len : (toL P S l F W m M).length ≤ 1048576 := by
  cases h : toB P S l F W m M
  · rw [to_no0 h]; simp
  · have h0 := h
    unfold toB at h0
    simp only [Bool.and_eq_true] at h0
    have h1 := (tg_iff.1 h0.1).c
    unfold toL
    rw [eIf_t h, toF_len, List.length_replicate]
    omega
end
end Go.Proofs.Ytgkaalonmkcclaa

namespace Go.Proofs.Ytgkaalonmkcclaa
open Go.RowKit Go.Shelf
set_option maxRecDepth 100000
attribute [local go_sem] Oper.semAt_some

theorem toM_snoc {n : Nat} (pre : List (ToI n)) (x : ToI n) : toM (pre ++ [x]) = toM pre ++ [x.1] := by unfold toM; rw [List.map_append]; rfl
theorem toM_len {n : Nat} (pre : List (ToI n)) : (toM pre).length = pre.length := List.length_map _
set_option maxHeartbeats 4000000 in
/-- What a survey's records count, handed to a loop's body one after the other. -/
theorem co_in (n : Nat) (hn : 1 ≤ n) (Y Bl Bg : Nat) (p x z ga va v : Option Addr) (c c2 c3 ca cv c4 : Nat) (P : List Int) (S : List (ByteArray × Int)) (l : Int) (F W : List Int) (m : Int) (Q : List PR) (w : World) (htg : TgP P S l F W m) (hdk : dokB S (pM Q) = true) (hty : tyB P (pM Q) = true)
    (hG : G7 w Bg (.slice p P.length c) (.int .i64 l) (.slice x F.length c2) (.slice z W.length c3) (.int .i64 m) (.slice ga (lvL P l).length ca) (.slice va (tbS S F).length cv)) (hL : Boxed w Bl 60 (.slice v Q.length c4))
    (hP : IIn w p P) (hF : IIn w x F) (hW : IIn w z W) (hA : IIn w ga (lvL P l)) (hT : Rd w va (vC (tbS S F))) (hQ : DIn w v Q) (J Jx : List (ToI (tcZ P S l F).toNat) → World → Prop)
    (V : World) (hJa : AbidesFrom V.heap.size J)
    (hY : ∀ pre y W1, J pre W1 → pre.length < 41 → YieldAt Fence.wide (n - 1) Try.prog Y #[.int .i64 (y.1.1 : Int), .int .i64 y.1.2] W1 fun e W' =>
      (e = .returned (.bool true) ∧ J (pre ++ [y]) W' ∧ Below w.heap.size W1 W') ∨ (e = .returned (.bool false) ∧ Jx (pre ++ [y]) W'))
    (hB : Below w.heap.size w V) (h0 : J [] V) :
    CallsIn Fence.wide n Try.prog 118 #[.func (.yield Y) #[] #[], .pointer (some ⟨Bl, 0, none⟩), .pointer (some ⟨Bg, 0, none⟩)] V fun e W' => (∃ v, e = .returned v) ∧
      ((∃ ys : List (ToI (tcZ P S l F).toNat), toM ys = toP P S l F W m (pM Q) Q.length ∧ J ys W') ∨ (∃ pre : List (ToI (tcZ P S l F).toNat), True ∧ Jx pre W')) := by
  have hth := Lib.hid htg
  have hdkh := Lib.hid hdk
  have htyh := Lib.hid hty
  have hPh := Lib.hid hP
  have hFh := Lib.hid hF
  have hWh := Lib.hid hW
  have hAh := Lib.hid hA
  have hTh := Lib.hid hT
  have hQh := Lib.hid hQ
  have hGh := Lib.hid hG
  have hLh := Lib.hid hL
  have hJh := Lib.hid hJa
  have hYh := Lib.hid hY
  have hQ40 : Q.length ≤ 40 := by have := dokB_len hdk; rwa [pM_len] at this
  clear htg hdk hty hP hF hW hA hT hQ hG hJa hY
  have cL := (boxed_below hL hB).cell
  clear hL
  refine callsIn_of_wp Try.func118 rfl trivial ?_ rfl
  simp only [Try.ntmps118, List.size_toArray, List.length_cons, List.length_nil, Nat.reduceAdd, Nat.reduceSub, Array.replicate_succ, Array.replicate_zero, List.push_toArray, List.append_toArray, List.nil_append, List.cons_append]
  gi_wp2
  clear cL
  gi_loopw [10] (fun i wr => ∃ (j : Nat) (pre : List (ToI (tcZ P S l F).toNat)), j ≤ Q.length ∧ i = .int .i64 j ∧ Hid (toM pre = toP P S l F W m (pM Q) j) ∧ J pre wr ∧ Below w.heap.size w wr ∧ V.heap.size ≤ wr.heap.size)
    (fun i _ => Q.length - (intOf i).toNat)
  case atStart => exact ⟨0, [], by omega, by go_num, rfl, h0, hB, Nat.le_refl _⟩
  case round =>
    clear h0 hB
    obtain ⟨j, pre, hj, rfl, hpre, hJ, hb, hVr⟩ := hrel
    by_cases hlt : j < Q.length
    · obtain ⟨bl, off, q, rfl, hbl, hQj, hc0, hc1, hc2⟩ := (hQh.out.2.2.below hb).rec hlt
      obtain ⟨k, hka, hcl⟩ := sv_cl hdkh.out htyh.out hQj
      have hqr := Lib.hid ((hQh.out.2.1 q (List.mem_of_getElem? hQj)).2.2.below hb)
      have hix := toIx_at (P := P) (S := S) (l := l) (F := F) (W := W) hQj
      have hnx := toNx_at (P := P) (l := l) (W := W) (m := m) hQj
      have hclh := Lib.hid hcl
      obtain ⟨qa, qh, qx, qc, qL⟩ := q
      have hka : qa = (k : Int) := hka
      subst hka
      have hlt' : (j : Int) < (Q.length : Int) := by omega
      have bd1 := clI_bd hth.out hcl
      have bd2 := clN_bd hth.out hcl
      replace hQj := Lib.hid hQj
      have hix : toIx P S l F W (pM Q) j = clI P S l F W (k : Int) qL := hix
      have hnx : toNx P l W m (pM Q) j = clN P l W m (k : Int) qL := hnx
      replace hix := Lib.hid hix
      replace hnx := Lib.hid hnx
      have hc2 : wr.cell? ⟨bl, off + j * 3 + 2, none⟩ = some (.slice qx qL.length qc) := hc2
      have BA : Below wr.heap.size wr (wr.alloc (.cells #[.int .i64 (k : Int), .int .i64 qh, .slice qx qL.length qc] 72)) := (by repeat (first | exact Below.refl _ _ | assumption | refine Below.drew ?_ | refine below_drewN ?_ _ | refine Below.alloc' ?_ _ | (refine Below.setCell ?_ (by first | omega | (simp; done) | (simp; omega) | exact Below.size (by assumption) | exact Nat.le_trans (Below.size (by assumption)) (by simp)) _) | (refine Below.via' ?_ (by assumption)) | (refine Below.alloc ?_ (by first | omega | (simp; done) | (simp; omega) | exact Below.size (by assumption) | exact Nat.le_trans (Below.size (by assumption)) (by simp)) _) | (refine Below.via ?_ (by assumption) (by first | omega | (simp; done) | (simp; omega) | exact Below.size (by assumption) | exact Nat.le_trans (Below.size (by assumption)) (by simp)))))
      obtain ⟨WA, hWA⟩ : ∃ WA, WA = wr.alloc (.cells #[.int .i64 (k : Int), .int .i64 qh, .slice qx qL.length qc] 72) := ⟨_, rfl⟩
      have hqn := RB.new wr k qh qx qL.length qc 72
      rw [← hWA] at BA hqn
      have hqn := Lib.hid hqn
      have BwA : Below w.heap.size w WA := Below.via' hb BA
      have J2 := Lib.hid (hJh.out _ _ _ none hJ (grown_belowE BA) (by intro r hr; cases hr))
      have hVA := Nat.le_trans hVr BA.size
      have hpl : pre.length ≤ j := by rw [← toM_len, hpre.out]; exact toP_len j
      replace hWA := Lib.hid hWA
      clear hcl hJ
      have FF := And.intro (hGh.out.below BwA) hqn.out
      rw [hWA.out] at FF
      obtain ⟨⟨j0, j1, j2, j3, j4, j5, j6, jl⟩, ⟨ra, rb, rc, rd⟩⟩ := FF
      gi_wp2_with fail
      refine ⟨trivial, ?_⟩
      rw [← hWA.out]
      refine (callsIn_wide.2 (contrib_any _ _ _ _ _ _ _ _ _ _ _ _ P S l F W m k qh qL _ hth.out hclh.out (hPh.out.below BwA) (hFh.out.below BwA) (hWh.out.below BwA) (hAh.out.below BwA) (hTh.out.below BwA) (hqr.out.below BA))).mono ?_
      rintro e w2 ⟨rfl, hb2⟩
      have J3 := hJh.out _ _ _ none J2.out (grown_belowE hb2) (by intro r hr; cases hr)
      have B2 : Below w.heap.size w w2 := Below.via' BwA hb2
      have hV2 := Nat.le_trans hVA hb2.size
      clear j0 j1 j2 j3 j4 j5 j6 jl ra rb rc rd hc0 hc1 hc2 J2 hb2 hb
      by_cases hci : clI P S l F W (k : Int) qL = -1
      · have ht : (clI P S l F W (k : Int) qL != -1) = false := by rw [hci]; rfl
        have hst := Lib.hid (toP_skip (P := P) (S := S) (l := l) (F := F) (W := W) (m := m) (M := pM Q) (j := j) (by rw [hix.out]; exact hci))
        have hJ3h := Lib.hid J3
        replace hci := Lib.hid hci
        clear J3
        gi_wp2
        refine ⟨(fun f h => by cases h), ?_⟩
        gi_wp2
        go_roundw
        case rel => exact ⟨j + 1, pre, by omega, by go_num, (by unfold Hid; rw [hst.out, hpre.out]), hJ3h.out, B2, hV2⟩
        case measure => simp [intOf]; omega
      · have ht : (clI P S l F W (k : Int) qL != -1) = true := by rw [bne_iff_ne]; exact hci
        have hst := Lib.hid (toP_take (P := P) (S := S) (l := l) (F := F) (W := W) (m := m) (M := pM Q) (j := j) (by rw [hix.out]; exact hci))
        obtain ⟨fn, tmps, assign, body, hy, hR⟩ := hYh.out pre ⟨((clI P S l F W (k : Int) qL).toNat, clN P l W m (k : Int) qL), by omega, bd2⟩ w2 J3 (by omega)
        try dsimp only at hy
        have hcn : ((clI P S l F W (k : Int) qL).toNat : Int) = clI P S l F W (k : Int) qL := by omega
        rw [hcn] at hy
        clear J3
        gi_wp2
        refine hR.mono ?_
        rintro e W3 (⟨rfl, hJ4, hk4⟩ | ⟨rfl, hJx4⟩)
        · gi_wp2
          go_roundw
          case rel => exact ⟨j + 1, _, by omega, by go_num, (by unfold Hid; rw [hst.out, toM_snoc, hpre.out, hix.out, hnx.out]), hJ4, B2.trans hk4, Nat.le_trans hV2 hk4.size⟩
          case measure => simp [intOf]; omega
        · gi_wp2
          refine bodyPost_ret (results_none rfl _ _ _) rfl ?_
          exact ⟨⟨_, rfl⟩, .inr ⟨_, trivial, hJx4⟩⟩
    · have hij : j = Q.length := by omega
      subst hij
      gi_wp2
      go_end0
      exact ⟨⟨_, rfl⟩, .inl ⟨pre, hpre.out, hJ⟩⟩
end Go.Proofs.Ytgkaalonmkcclaa

namespace Go.Proofs.Ytgkaalonmkcclaa
open Go.RowKit Go.Shelf
set_option maxRecDepth 100000
attribute [local go_sem] Oper.semAt_some

theorem co_facts (w : World) (t1 t2 : TypeId) (a0 a1 a2 a3 a4 a5 a6 v : Value) : G7 ((w.alloc (.cells #[a0, a1, a2, a3, a4, a5, a6] t1)).alloc (.cells #[v] t2)) w.heap.size a0 a1 a2 a3 a4 a5 a6 ∧ Boxed ((w.alloc (.cells #[a0, a1, a2, a3, a4, a5, a6] t1)).alloc (.cells #[v] t2)) (w.heap.size + 1) t2 v := by
  refine ⟨(g7_of_wb (Wb.new w t1 #[a0, a1, a2, a3, a4, a5, a6])).below (Below.alloc' (Below.refl _ _) _), ?_⟩
  have := Boxed.new (w.alloc (.cells #[a0, a1, a2, a3, a4, a5, a6] t1)) t2 v
  rwa [World.size_alloc] at this
theorem co_any (p x z ga va v : Option Addr) (c c2 c3 ca cv c4 n : Nat) (P : List Int) (S : List (ByteArray × Int)) (l : Int) (F W : List Int) (m : Int) (w : World) :
    Calls Try.prog 87 #[.agg #[.slice p P.length c, .int .i64 l, .slice x F.length c2, .slice z W.length c3, .int .i64 m, .slice ga (lvL P l).length ca, .slice va (tbS S F).length cv], .slice v n c4] w fun e w' => e = .returned (.func (.func 118) #[] #[.pointer (some ⟨w.heap.size + 1, 0, none⟩), .pointer (some ⟨w.heap.size, 0, none⟩)]) ∧
      Below w.heap.size w w' ∧ w'.heap.size = w.heap.size + 1 + 1 ∧ G7 w' w.heap.size (.slice p P.length c) (.int .i64 l) (.slice x F.length c2) (.slice z W.length c3) (.int .i64 m) (.slice ga (lvL P l).length ca) (.slice va (tbS S F).length cv) ∧ Boxed w' (w.heap.size + 1) 60 (.slice v n c4) := by
  go_enter Try.func87, Try.ntmps87
  go_wp2
  go_ret
  exact ⟨by simp, (by repeat (first | exact Below.refl _ _ | assumption | refine Below.drew ?_ | refine below_drewN ?_ _ | refine Below.alloc' ?_ _ | (refine Below.setCell ?_ (by first | omega | (simp; done) | (simp; omega) | exact Below.size (by assumption) | exact Nat.le_trans (Below.size (by assumption)) (by simp)) _) | (refine Below.via' ?_ (by assumption)) | (refine Below.alloc ?_ (by first | omega | (simp; done) | (simp; omega) | exact Below.size (by assumption) | exact Nat.le_trans (Below.size (by assumption)) (by simp)) _) | (refine Below.via ?_ (by assumption) (by first | omega | (simp; done) | (simp; omega) | exact Below.size (by assumption) | exact Nat.le_trans (Below.size (by assumption)) (by simp))))), by simp, co_facts _ _ _ _ _ _ _ _ _ _ _⟩
theorem co_stops (Bl Bg : Nat) (p x z ga va v : Option Addr) (c c2 c3 ca cv c4 : Nat) (P : List Int) (S : List (ByteArray × Int)) (l : Int) (F W : List Int) (m : Int) (Q : List PR) (w : World) (htg : TgP P S l F W m) (hdk : dokB S (pM Q) = true) (hty : tyB P (pM Q) = true)
    (hG : G7 w Bg (.slice p P.length c) (.int .i64 l) (.slice x F.length c2) (.slice z W.length c3) (.int .i64 m) (.slice ga (lvL P l).length ca) (.slice va (tbS S F).length cv)) (hL : Boxed w Bl 60 (.slice v Q.length c4))
    (hP : IIn w p P) (hF : IIn w x F) (hW : IIn w z W) (hA : IIn w ga (lvL P l)) (hT : Rd w va (vC (tbS S F))) (hQ : DIn w v Q) (W0 : World) (hW0 : Below w.heap.size w W0) :
    SeqStopsK Fence.wide 4 Try.prog 118 #[.pointer (some ⟨Bl, 0, none⟩), .pointer (some ⟨Bg, 0, none⟩)] (fun x : ToI (tcZ P S l F).toNat => #[.int .i64 (x.1.1 : Int), .int .i64 x.1.2]) (fun X Y => Below w.heap.size X Y) (fun ys => toM ys = toP P S l F W m (pM Q) Q.length) (fun _ => True) 41 W0 := fun Y J Jx V hV hA' _ hY h0 =>
  co_in 4 (by omega) Y Bl Bg p x z ga va v c c2 c3 ca cv c4 P S l F W m Q w htg hdk hty hG hL hP hF hW hA hT hQ J Jx V hA' hY (hW0.trans (hV.mono hW0.size)) h0
end Go.Proofs.Ytgkaalonmkcclaa

namespace Go.Proofs.Ytgkaalonmkcclaa
open Go.RowKit Go.Shelf
set_option maxRecDepth 100000
attribute [local go_sem] Oper.semAt_some

set_option maxHeartbeats 16000000 in
theorem iTO_x (p y x z v : Option Addr) (c c1 c2 c3 c4 : Nat) (P : List Int) (S : List (ByteArray × Int)) (l : Int) (F W : List Int) (m : Int) (Q : List PR) (w : World) (hP : IIn w p P) (hS : SIn w y c1 S) (hT : TIn w x z F W) (hQ : DIn w v Q) :
    Calls Try.prog 40 #[.agg #[.slice p P.length c], .slice y S.length c1, .agg #[.int .i64 l, .slice x F.length c2, .slice z W.length c3, .int .i64 m], .slice v Q.length c4] w (RetLB (toL P S l F W m (pM Q)) (toB P S l F W m (pM Q)) w) := by
  obtain ⟨i0, hii, hz0, hz1, hz2⟩ := info_parts Try.infoInt
  have hQh := Lib.hid hQ
  have hQl := hQ.1
  clear hQ
  have hPh := Lib.hid hP
  have hSh := Lib.hid hS
  have hFh := Lib.hid hT.1
  have hWh := Lib.hid hT.2
  clear hP hS hT
  have p1 := Lib.hid (QB.new w p P.length c 33)
  have p2 := Lib.hid (TQ.new (w.alloc (.cells #[.slice p P.length c] 33)) l x F.length c2 z W.length c3 m 37)
  obtain ⟨w0, hw0⟩ : ∃ w0, w0 = (w.alloc (.cells #[.slice p P.length c] 33)).alloc (.cells #[.int .i64 l, .slice x F.length c2, .slice z W.length c3, .int .i64 m] 37) := ⟨_, rfl⟩
  have B0 : Below w.heap.size w w0 := by rw [hw0]; exact (by repeat (first | exact Below.refl _ _ | assumption | refine Below.drew ?_ | refine below_drewN ?_ _ | refine Below.alloc' ?_ _ | (refine Below.setCell ?_ (by first | omega | (simp; done) | (simp; omega) | exact Below.size (by assumption) | exact Nat.le_trans (Below.size (by assumption)) (by simp)) _) | (refine Below.via' ?_ (by assumption)) | (refine Below.alloc ?_ (by first | omega | (simp; done) | (simp; omega) | exact Below.size (by assumption) | exact Nat.le_trans (Below.size (by assumption)) (by simp)) _) | (refine Below.via ?_ (by assumption) (by first | omega | (simp; done) | (simp; omega) | exact Below.size (by assumption) | exact Nat.le_trans (Below.size (by assumption)) (by simp)))))
  have g0 : Hid (QB w0 w.heap.size p P.length c) := by
    rw [hw0]
    exact p1.out.below (show Below (w.alloc (.cells #[.slice p P.length c] 33)).heap.size (w.alloc (.cells #[.slice p P.length c] 33)) _ from (by repeat (first | exact Below.refl _ _ | assumption | refine Below.drew ?_ | refine below_drewN ?_ _ | refine Below.alloc' ?_ _ | (refine Below.setCell ?_ (by first | omega | (simp; done) | (simp; omega) | exact Below.size (by assumption) | exact Nat.le_trans (Below.size (by assumption)) (by simp)) _) | (refine Below.via' ?_ (by assumption)) | (refine Below.alloc ?_ (by first | omega | (simp; done) | (simp; omega) | exact Below.size (by assumption) | exact Nat.le_trans (Below.size (by assumption)) (by simp)) _) | (refine Below.via ?_ (by assumption) (by first | omega | (simp; done) | (simp; omega) | exact Below.size (by assumption) | exact Nat.le_trans (Below.size (by assumption)) (by simp))))))
  have t0 : Hid (TQ w0 (w.heap.size + 1) l x F.length c2 z W.length c3 m) := by
    have h0 := p2.out
    rw [World.size_alloc, ← hw0] at h0
    exact h0
  have z0 : w0.heap.size = w.heap.size + 1 + 1 := by rw [hw0]; simp
  clear p1 p2
  go_enter Try.func40, Try.ntmps40
  go_wp2_with fail
  rw [← hw0]
  replace hw0 := Lib.hid hw0
  replace z0 := Lib.hid z0
  refine (gridOf_any p y x z _ _ _ _ P S l m F W _ (hPh.out.below B0) (hSh.out.below B0) ⟨hFh.out.below B0, hWh.out.below B0⟩).mono ?_
  rintro e w1 ⟨hb1, h1⟩
  have B1 : Below w.heap.size w w1 := Below.via' B0 hb1
  have g1 := Lib.hid (g0.out.below hb1)
  have t1 := Lib.hid (t0.out.below hb1)
  obtain ⟨ka1, kb1, kc1⟩ := g1.out
  obtain ⟨ta1, tb1, tc1, td1, te1⟩ := t1.out
  try clear ka0 kb0 kc0 ta0 tb0 tc0 td0 te0
  clear hb1
  rcases h1 with ⟨hno, rfl⟩ | ⟨htg, ga, ca, va, rfl, hA, hV, hvl⟩
  · have hv := Lib.hid (to_no1 (M := pM Q) (tg_no hno))
    clear hno
    go_wp2
    go_ret2
    exact riLB_no (to_no0 hv.out) hv.out (by repeat (first | exact Below.refl _ _ | assumption | refine Below.drew ?_ | refine below_drewN ?_ _ | refine Below.alloc' ?_ _ | (refine Below.setCell ?_ (by first | omega | (simp; done) | (simp; omega) | exact Below.size (by assumption) | exact Nat.le_trans (Below.size (by assumption)) (by simp)) _) | (refine Below.via' ?_ (by assumption)) | (refine Below.alloc ?_ (by first | omega | (simp; done) | (simp; omega) | exact Below.size (by assumption) | exact Nat.le_trans (Below.size (by assumption)) (by simp)) _) | (refine Below.via ?_ (by assumption) (by first | omega | (simp; done) | (simp; omega) | exact Below.size (by assumption) | exact Nat.le_trans (Below.size (by assumption)) (by simp)))))
  have hpt := Lib.hid (tbS_ok htg.s htg.r)
  have hth := Lib.hid htg
  have hl30 := (ge_len htg.g).2
  have hl := lvL_len P l
  have hAh := Lib.hid hA
  have hPt := Lib.hid hV
  clear htg hA hV
  obtain ⟨W2, hW2⟩ : ∃ W2, W2 = w1.alloc (.cells #[.slice p P.length c, .int .i64 l, .slice x F.length c2, .slice z W.length c3, .int .i64 m, .slice ga (lvL P l).length ca, .slice (some ⟨va, 0, none⟩) (tbS S F).length (tbS S F).length] 91) := ⟨_, rfl⟩
  have hG := g7_of_wb (Wb.new w1 91 #[.slice p P.length c, .int .i64 l, .slice x F.length c2, .slice z W.length c3, .int .i64 m, .slice ga (lvL P l).length ca, .slice (some ⟨va, 0, none⟩) (tbS S F).length (tbS S F).length])
  rw [← hW2] at hG
  have BW : Below w1.heap.size w1 W2 := by rw [hW2]; exact Below.alloc' (Below.refl _ _) _
  have BW2 : Below w.heap.size w W2 := Below.via' B1 BW
  replace hG := Lib.hid hG
  replace hW2 := Lib.hid hW2
  obtain ⟨ka2, kb2, kc2⟩ := g1.out.below BW
  go_wp2_with fail
  rw [← hW2.out]
  refine (isSurveyFor_any _ _ _ _ _ _ P S Q _ hth.out.g hth.out.s (hPh.out.below BW2) (hSh.out.below BW2) (hQh.out.below BW2)).mono ?_
  rintro e w3 ⟨rfl, hb3⟩
  have B13 := Below.via' BW hb3
  have B3 := Below.via' B1 B13
  obtain ⟨j0, j1, j2, j3, j4, j5, j6, jl⟩ := hG.out.below hb3
  have hG3 := Lib.hid (hG.out.below hb3)
  clear ka2 kb2 kc2 hb3
  cases hsv : (dokB S (pM Q) && tyB P (pM Q))
  · have hv := Lib.hid (to_no2 (l := l) (F := F) (W := W) (m := m) hsv)
    go_wp2
    go_ret2
    exact riLB_no (to_no0 hv.out) hv.out B3
  have hsv2 := hsv
  rw [Bool.and_eq_true] at hsv2
  have hdk := Lib.hid hsv2.1
  have hty := Lib.hid hsv2.2
  clear hsv2
  have hsvh := Lib.hid hsv
  have hQ40 : Q.length ≤ 40 := by have := dokB_len hdk.out; rwa [pM_len] at this
  clear hsv
  have hv := Lib.hid (to_yes hth.out hsvh.out)
  go_wp2
  refine wp_region_held_drew (S := fun X => Below w3.heap.size w3 X) (by kernel_rfl) (Below.drew (Below.refl _ _)) (fun hH => ?_)
  refine wpAnyH_take (i := 0) (v := ?_) rfl (by kernel_rfl) (by kernel_rfl) (by kernel_rfl) (fun _ _ _ h => h) (Or.inl ⟨by rfl, ?_⟩) (by assumption) ?_; rotate_left; · (intro wz hz; (have f0 := (hz.cell (p := ⟨w1.heap.size, 0, none⟩) jl).trans j0; have f1 := (hz.cell (p := ⟨w1.heap.size, 1, none⟩) jl).trans j1; have f2 := (hz.cell (p := ⟨w1.heap.size, 2, none⟩) jl).trans j2; have f3 := (hz.cell (p := ⟨w1.heap.size, 3, none⟩) jl).trans j3; have f4 := (hz.cell (p := ⟨w1.heap.size, 4, none⟩) jl).trans j4; have f5 := (hz.cell (p := ⟨w1.heap.size, 5, none⟩) jl).trans j5; have f6 := (hz.cell (p := ⟨w1.heap.size, 6, none⟩) jl).trans j6); clear hz; go_simp; try with_reducible rfl); (try simp only [Act.put, List.getElem_toArray, List.getElem_cons_succ, List.getElem_cons_zero, List.setIfInBounds_toArray, List.set_cons_zero, List.set_cons_succ])
  refine wpAnyH_take (i := 2) (v := ?_) rfl (by kernel_rfl) (by kernel_rfl) (by kernel_rfl) (fun _ _ _ h => h) (Or.inl ⟨by rfl, ?_⟩) (by assumption) ?_; rotate_left; · (intro wz hz; (have f0 := (hz.cell (p := ⟨w1.heap.size, 0, none⟩) jl).trans j0; have f1 := (hz.cell (p := ⟨w1.heap.size, 1, none⟩) jl).trans j1; have f2 := (hz.cell (p := ⟨w1.heap.size, 2, none⟩) jl).trans j2; have f3 := (hz.cell (p := ⟨w1.heap.size, 3, none⟩) jl).trans j3; have f4 := (hz.cell (p := ⟨w1.heap.size, 4, none⟩) jl).trans j4; have f5 := (hz.cell (p := ⟨w1.heap.size, 5, none⟩) jl).trans j5; have f6 := (hz.cell (p := ⟨w1.heap.size, 6, none⟩) jl).trans j6); clear hz; go_simp; try with_reducible rfl); (try simp only [Act.put, List.getElem_toArray, List.getElem_cons_succ, List.getElem_cons_zero, List.setIfInBounds_toArray, List.set_cons_zero, List.set_cons_succ])
  refine wpAnyH_take (i := 3) (v := ?_) rfl (by kernel_rfl) (by kernel_rfl) (by kernel_rfl) (fun _ _ _ h => h) (Or.inl ⟨by rfl, ?_⟩) (by assumption) ?_; rotate_left; · (intro wz hz; (skip); clear hz; go_simp; try with_reducible rfl); (try simp only [Act.put, List.getElem_toArray, List.getElem_cons_succ, List.getElem_cons_zero, List.setIfInBounds_toArray, List.set_cons_zero, List.set_cons_succ])
  refine wpAnyH_ready (rs := [1]) (by kernel_rfl) (by simp) (AllReadyH.cons rfl (fun K hK => ?_) AllReadyH.nil); go_simp
  refine (gcount_any _ _ _ _ _ _ _ _ _ _ _ _ _ _ _ (lvL P l) (tbS S F) _ hpt.out (by omega) (hPt.out.below (Below.via' B13 hH))).mono ?_; rintro e x1 ⟨rfl, hy1⟩; refine hK.out _ _ (Below.via' hH hy1) (fun h1 => ?_); clear hK K; (try simp only [Act.put, List.getElem_toArray, List.getElem_cons_succ, List.getElem_cons_zero, List.setIfInBounds_toArray, List.set_cons_zero, List.set_cons_succ])
  refine wpAnyH_ready (rs := [4]) (by kernel_rfl) (by simp) (AllReadyH.cons rfl (fun K hK => ?_) AllReadyH.nil); go_simp
  refine (co_any _ _ _ _ _ _ _ _ _ _ _ _ _ P S l F W m _).mono ?_; rintro e x2 ⟨rfl, hy2, hy3, hy4, hy5⟩; refine hK.out _ _ (Below.via' h1 hy2) (fun h2 => ?_); clear hK K; (try simp only [Act.put, List.getElem_toArray, List.getElem_cons_succ, List.getElem_cons_zero, List.setIfInBounds_toArray, List.set_cons_zero, List.set_cons_succ])
  refine wpAnyH_ready (rs := [5]) (by kernel_rfl) (by simp) (AllReadyH.cons rfl (fun K hK => ?_) AllReadyH.nil); go_simp
  refine hK.out _ _ (Below.alloc' h2 _) (fun h5 => ?_); clear hK K; (try simp only [Act.put, List.getElem_toArray, List.getElem_cons_succ, List.getElem_cons_zero, List.setIfInBounds_toArray, List.set_cons_zero, List.set_cons_succ])
  refine wpAnyH_ready (rs := [6]) (by kernel_rfl) (by simp) (AllReadyH.cons rfl (fun K hK => ?_) AllReadyH.nil); go_simp
  have hcn : ((lvL P l).length : Int) * cnZ (tbS S F) = (((tcZ P S l F).toNat : Nat) : Int) := by
    have h0 := (pt_cn hpt.out)
    have h1 : 0 ≤ tcZ P S l F := Int.mul_nonneg (by omega) (by omega)
    rw [Int.toNat_of_nonneg h1]
    rfl
  rw [hcn]
  replace hcn := Lib.hid hcn
  have hn6 : (tcZ P S l F).toNat ≤ 600 := by have := hth.out.c; omega
  obtain ⟨X, hX⟩ : ∃ X, X = x2.alloc (.cells #[.func (.func 118) #[] #[.pointer (some ⟨x1.heap.size + 1, 0, none⟩), .pointer (some ⟨x1.heap.size, 0, none⟩)]] 111) := ⟨_, rfl⟩
  have BX : Below x2.heap.size x2 X := by rw [hX]; exact Below.alloc' (Below.refl _ _) _
  have bX : Boxed X x2.heap.size 111 (.func (.func 118) #[] #[.pointer (some ⟨x1.heap.size + 1, 0, none⟩), .pointer (some ⟨x1.heap.size, 0, none⟩)]) := by rw [hX]; exact Boxed.new x2 _ _
  rw [← hX]
  rw [← hX] at h5
  replace hX := Lib.hid hX
  have hB5 := Below.via' B3 h5
  have hB15 := Below.via' B13 h5
  have hGX := Lib.hid (hy4.below BX)
  have hLX : Boxed X (x1.heap.size + 1) 60 (.slice v Q.length c4) := by rw [hX.out]; exact hy5.alloc _
  replace hLX := Lib.hid hLX
  have hgX : x1.heap.size + 1 + 1 < X.heap.size := by rw [← hy3]; exact bX.lt
  have hcX : X.cell? ⟨x1.heap.size + 1 + 1, 0, none⟩ = some (.func (.func 118) #[] #[.pointer (some ⟨x1.heap.size + 1, 0, none⟩), .pointer (some ⟨x1.heap.size, 0, none⟩)]) := by rw [← hy3]; exact bX.cell
  refine (sumsOne_any 118 #[.pointer (some ⟨x1.heap.size + 1, 0, none⟩), .pointer (some ⟨x1.heap.size, 0, none⟩)] (x1.heap.size + 1 + 1) (tcZ P S l F).toNat 41 (toP P S l F W m (pM Q) Q.length) _ hn6 (by omega) (enters_of Try.func118 (by kernel_rfl) rfl)
    (fun W0 hW0 => co_stops (x1.heap.size + 1) x1.heap.size p x z ga (some ⟨va, 0, none⟩) v c c2 c3 ca (tbS S F).length c4 P S l F W m Q X hth.out hdk.out hty.out hGX.out hLX.out (hPh.out.below hB5) (hFh.out.below hB5) (hWh.out.below hB5) (hAh.out.below hB15) (hPt.out.below hB15) (hQh.out.below hB5) W0 hW0) hgX hcX).mono ?_
  rintro e x6 ⟨u, rfl, ho, hb6⟩
  have B6 := Below.via' h5 hb6
  have ho := Lib.hid (own_more ho hB5.size)
  refine hK.out _ _ B6 (fun hS => ?_)
  clear hK K
  (try simp only [Act.put, List.getElem_toArray, List.getElem_cons_succ, List.getElem_cons_zero, List.setIfInBounds_toArray, List.set_cons_zero, List.set_cons_succ])
  refine wpAnyH_ready (rs := [7]) (by kernel_rfl) (by simp) (AllReadyH.cons rfl (fun K hK => ?_) AllReadyH.nil); go_simp
  refine hK.out _ _ B6 (fun hS => ?_)
  clear hK K
  (try simp only [Act.put, List.getElem_toArray, List.getElem_cons_succ, List.getElem_cons_zero, List.setIfInBounds_toArray, List.set_cons_zero, List.set_cons_succ])
  refine wpAnyH_ready (rs := [8]) (by kernel_rfl) (by simp) (AllReadyH.cons rfl (fun K hK => ?_) AllReadyH.nil); go_simp
  refine hK.out _ _ B6 (fun hS => ?_)
  clear hK K
  (try simp only [Act.put, List.getElem_toArray, List.getElem_cons_succ, List.getElem_cons_zero, List.setIfInBounds_toArray, List.set_cons_zero, List.set_cons_succ])
  refine wpAnyH_done (by kernel_rfl) ?_ _
  go_wp2_with fail
  go_ret2
  rw [hv.out.1, hv.out.2]
  refine ⟨_, rfl, ?_, Below.via' B3 B6⟩
  have hlen : (toF (List.replicate (tcZ P S l F).toNat 0) (toP P S l F W m (pM Q) (pM Q).length)).length = (tcZ P S l F).toNat := by rw [toF_len, List.length_replicate]
  rw [hlen, pM_len]
  exact ho.out
end Go.Proofs.Ytgkaalonmkcclaa
