import Derived.Test.YtpmbenedeakieaaPqK
import Derived.Test.YtpmbenedeakieaaShelf
namespace Go.Proofs.Ytpmbenedeakieaa
open Go.RowKit
set_option maxRecDepth 100000

/-- The last level below n that a set has; any, where there is no set. -/
def bsF (x : Int) : Nat → Int
  | 0 => 0
  | n + 1 => if x = 0 ∨ hsB x n = true then (n : Int) else bsF x n
/-- The greatest level of a set, or of a variable. -/
def tpZ (lv x : Int) : Int := if x = 0 then lv - 1 else (Lib.bitLen x.toNat : Int) - 1
theorem bsF_all : ∀ lv : Fin 9, ∀ x : Fin 256, 1 ≤ x.val → x.val < 2 ^ lv.val → bsF (x.val : Int) lv.val = (Lib.bitLen x.val : Int) - 1 := by decide +kernel
theorem bsF_top {lv x : Int} (h : 2 ≤ lv ∧ lv ≤ 8) (h0 : 0 ≤ x) (h1 : x ≤ flZ lv) : bsF x lv.toNat = tpZ lv x := by
  obtain ⟨n, rfl⟩ := Int.eq_ofNat_of_zero_le (show 0 ≤ lv by omega)
  rw [Int.toNat_natCast]
  by_cases hx : x = 0
  · subst hx
    obtain ⟨k, rfl⟩ : ∃ k, n = k + 1 := ⟨n - 1, by omega⟩
    unfold bsF tpZ
    rw [if_pos (Or.inl rfl), if_pos rfl]
    omega
  · have hlt := flZ_lt h0 h1
    rw [Int.toNat_natCast] at hlt
    have h255 := (flZ_bd h).2
    obtain ⟨a, rfl⟩ := Int.eq_ofNat_of_zero_le h0
    rw [Int.toNat_natCast] at hlt
    have := bsF_all ⟨n, by omega⟩ ⟨a, by omega⟩ (by show 1 ≤ a; omega) hlt
    unfold tpZ
    rw [if_neg hx, Int.toNat_natCast]
    exact this
theorem bsF_bd (x : Int) : ∀ n : Nat, 0 ≤ bsF x n ∧ bsF x n ≤ n
  | 0 => ⟨by unfold bsF; omega, by unfold bsF; omega⟩
  | n + 1 => by
    unfold bsF
    have := bsF_bd x n
    split <;> omega
def seZ (S : List (ByteArray × Int)) (W : List Int) (m : Int) : Int := if m < 0 then 1 else tpZ (lvA S m.toNat) (W.getD m.toNat 0)
def senN (P : List Int) (S : List (ByteArray × Int)) (l : Int) (F W : List Int) (m : Int) : Int := if tgB P S l F W m then seZ S W m else 0
theorem se_one {S : List (ByteArray × Int)} {W : List Int} {m : Int} (h : m < 0) : seZ S W m = 1 := if_pos h
theorem se_at {S : List (ByteArray × Int)} {W : List Int} {q : Nat} {nm : ByteArray} {lv x : Int} (h : S[q]? = some (nm, lv)) (k : W[q]? = some x) : seZ S W (q : Int) = tpZ lv x := by
  unfold seZ
  rw [if_neg (by omega), Int.toNat_natCast, lvA_at h, List.getD_eq_getElem?_getD, k]
  rfl

/-- Below an area of a level there is a leaf. -/
theorem leaf_below {P : List Int} (hg : geB P = true) {a : Nat} : ∀ n k, P.length - k ≤ n → k < P.length → ptL P a <+: ptL P k → ∃ j, j < P.length ∧ lfP P j = true ∧ ptL P a <+: ptL P j
  | 0, k, h, hk, _ => by omega
  | n + 1, k, h, hk, hp => by
    by_cases hl : (awL P k).length = 0
    · exact ⟨k, hk, decide_eq_true hl, hp⟩
    · obtain ⟨x, hx⟩ := List.exists_mem_of_length_pos (show 0 < (awL P k).length by omega)
      obtain ⟨c, rfl, hc, he⟩ := sel_mem.1 hx
      have hpc : P[c]? = some (k : Int) := of_decide_eq_true he
      have hkc : k < c := by
        rcases Nat.eq_zero_or_pos c with e | e
        · subst e
          rw [ge_zero hg] at hpc
          injection hpc with hpc
          omega
        · obtain ⟨p, hp1, hp2⟩ := ge_par hg e hc
          rw [hp1] at hpc
          injection hpc with hpc
          omega
      refine leaf_below hg n c (by omega) hc (hp.trans ?_)
      rw [pt_step hpc hkc]
      exact List.prefix_append _ _
theorem leaf_deep {P : List Int} (hg : geB P = true) {l : Int} (h : 0 < (lvL P l).length) : ∃ j : Nat, (j : Int) ∈ lfL P ∧ 0 ≤ anZ P j l := by
  obtain ⟨x, hx⟩ := List.exists_mem_of_length_pos h
  obtain ⟨a, rfl, ha, he⟩ := sel_mem.1 hx
  have hd : (dpN P a : Int) = l := of_decide_eq_true he
  obtain ⟨j, hj, hl, hp⟩ := leaf_below hg P.length a (by omega) ha (List.prefix_rfl)
  refine ⟨j, sel_mem.2 ⟨j, rfl, hj, hl⟩, ?_⟩
  rw [← hd, an_pre hp rfl]
  omega
/-- Is one of the first leaves that deep? -/
def dqF (P : List Int) (l : Int) (j : Nat) : Bool := ((lfL P).take j).any fun a => decide (0 ≤ anZ P a.toNat l)
theorem dqF_snoc {P : List Int} {l : Int} {j k : Nat} (h : (lfL P)[j]? = some (k : Int)) : dqF P l (j + 1) = (dqF P l j || decide (0 ≤ anZ P k l)) := by
  unfold dqF
  rw [take_snoc h, List.any_append]
  simp
theorem dqF_end {P : List Int} (hg : geB P = true) {l : Int} (h : 0 < (lvL P l).length) : dqF P l (lfL P).length = true := by
  obtain ⟨j, hj, ha⟩ := leaf_deep hg h
  unfold dqF
  rw [List.take_length, List.any_eq_true]
  exact ⟨_, hj, by rw [Int.toNat_natCast]; exact decide_eq_true ha⟩
set_option maxHeartbeats 8000000 in
theorem iSen_x (p y x z : Option Addr) (c c1 c2 c3 : Nat) (P : List Int) (S : List (ByteArray × Int)) (l : Int) (F W : List Int) (m : Int) (w : World) (hP : IIn w p P) (hS : SIn w y c1 S) (hT : TIn w x z F W) :
    Calls Try.prog 31 #[.agg #[.slice p P.length c], .slice y S.length c1, .agg #[.int .i64 l, .slice x F.length c2, .slice z W.length c3, .int .i64 m]] w fun e w' => e = .returned (.tuple #[.int .i64 (senN P S l F W m), .bool (tgB P S l F W m)]) ∧ Below w.heap.size w w' := by
  have hPh := Lib.hid hP
  have hSh := Lib.hid hS
  have hFh := Lib.hid hT.1
  have hWh := Lib.hid hT.2
  clear hP hS hT
  have p1 := Lib.hid (QB.new w p P.length c 33)
  have p2 := Lib.hid (TQ.new (w.alloc (.cells #[.slice p P.length c] 33)) l x F.length c2 z W.length c3 m 37)
  obtain ⟨w0, hw0⟩ : ∃ w0, w0 = (w.alloc (.cells #[.slice p P.length c] 33)).alloc (.cells #[.int .i64 l, .slice x F.length c2, .slice z W.length c3, .int .i64 m] 37) := ⟨_, rfl⟩
  have B0 : Below w.heap.size w w0 := by rw [hw0]; exact (by repeat (first | exact Below.refl _ _ | assumption | refine Below.drew ?_ | refine below_drewN ?_ _ | refine Below.alloc' ?_ _ | (refine Below.setCell ?_ (by first | omega | (simp; done) | (simp; omega) | exact Below.size (by assumption) | exact Nat.le_trans (Below.size (by assumption)) (by simp)) _) | (refine Below.via' ?_ (by assumption)) | (refine Below.alloc ?_ (by first | omega | (simp; done) | (simp; omega) | exact Below.size (by assumption) | exact Nat.le_trans (Below.size (by assumption)) (by simp)) _) | (refine Below.via ?_ (by assumption) (by first | omega | (simp; done) | (simp; omega) | exact Below.size (by assumption) | exact Nat.le_trans (Below.size (by assumption)) (by simp)))))
  have g0 : Hid (QB w0 w.heap.size p P.length c) := by
    rw [hw0]
    exact p1.out.below (show Below (w.alloc (.cells #[.slice p P.length c] 33)).heap.size (w.alloc (.cells #[.slice p P.length c] 33)) _ from (by repeat (first | exact Below.refl _ _ | assumption | refine Below.drew ?_ | refine below_drewN ?_ _ | refine Below.alloc' ?_ _ | (refine Below.setCell ?_ (by first | omega | (simp; done) | (simp; omega) | exact Below.size (by assumption) | exact Nat.le_trans (Below.size (by assumption)) (by simp)) _) | (refine Below.via' ?_ (by assumption)) | (refine Below.alloc ?_ (by first | omega | (simp; done) | (simp; omega) | exact Below.size (by assumption) | exact Nat.le_trans (Below.size (by assumption)) (by simp)) _) | (refine Below.via ?_ (by assumption) (by first | omega | (simp; done) | (simp; omega) | exact Below.size (by assumption) | exact Nat.le_trans (Below.size (by assumption)) (by simp))))))
  have t0 : Hid (TQ w0 (w.heap.size + 1) l x F.length c2 z W.length c3 m) := by
    have h0 := p2.out
    rw [World.size_alloc, ← hw0] at h0
    exact h0
  have z0 : w0.heap.size = w.heap.size + 1 + 1 := by rw [hw0]; simp
  clear p1 p2
  go_enter Try.func31, Try.ntmps31
  go_wp2_with fail
  rw [← hw0]
  replace hw0 := Lib.hid hw0
  replace z0 := Lib.hid z0
  refine (isTb_any p y x z _ _ _ _ P S l F W m _ (hPh.out.below B0) (hSh.out.below B0) ⟨hFh.out.below B0, hWh.out.below B0⟩).mono ?_
  rintro e w1 ⟨rfl, hb1⟩
  have B1 : Below w.heap.size w w1 := Below.via' B0 hb1
  have g1 := Lib.hid (g0.out.below hb1)
  have t1 := Lib.hid (t0.out.below hb1)
  obtain ⟨ka1, kb1, kc1⟩ := g1.out
  obtain ⟨ta1, tb1, tc1, td1, te1⟩ := t1.out
  try clear ka0 kb0 kc0 ta0 tb0 tc0 td0 te0
  clear hb1
  cases htb : tgB P S l F W m
  · have hv := Lib.hid (show senN P S l F W m = 0 ∧ tgB P S l F W m = false from ⟨if_f htb, htb⟩)
    clear htb
    go_wp2
    go_ret2
    exact ⟨ret_in hv.out.1.symm hv.out.2.symm, (by repeat (first | exact Below.refl _ _ | assumption | refine Below.drew ?_ | refine below_drewN ?_ _ | refine Below.alloc' ?_ _ | (refine Below.setCell ?_ (by first | omega | (simp; done) | (simp; omega) | exact Below.size (by assumption) | exact Nat.le_trans (Below.size (by assumption)) (by simp)) _) | (refine Below.via' ?_ (by assumption)) | (refine Below.alloc ?_ (by first | omega | (simp; done) | (simp; omega) | exact Below.size (by assumption) | exact Nat.le_trans (Below.size (by assumption)) (by simp)) _) | (refine Below.via ?_ (by assumption) (by first | omega | (simp; done) | (simp; omega) | exact Below.size (by assumption) | exact Nat.le_trans (Below.size (by assumption)) (by simp)))))⟩
  have htg := tg_iff.1 htb
  have hv := Lib.hid (show senN P S l F W m = seZ S W m ∧ tgB P S l F W m = true from ⟨if_t htb, htb⟩)
  clear htb
  have hm0 := htg.m0
  by_cases hmm : m = -1
  · have hm1 : (m == -1) = true := by rw [beq_iff_eq]; exact hmm
    have hv2 := Lib.hid (se_one (S := S) (W := W) (show m < 0 by omega))
    replace hmm := Lib.hid hmm
    clear htg
    go_wp2
    go_ret2
    exact ⟨ret_in (by rw [hv.out.1, hv2.out]) hv.out.2.symm, (by repeat (first | exact Below.refl _ _ | assumption | refine Below.drew ?_ | refine below_drewN ?_ _ | refine Below.alloc' ?_ _ | (refine Below.setCell ?_ (by first | omega | (simp; done) | (simp; omega) | exact Below.size (by assumption) | exact Nat.le_trans (Below.size (by assumption)) (by simp)) _) | (refine Below.via' ?_ (by assumption)) | (refine Below.alloc ?_ (by first | omega | (simp; done) | (simp; omega) | exact Below.size (by assumption) | exact Nat.le_trans (Below.size (by assumption)) (by simp)) _) | (refine Below.via ?_ (by assumption) (by first | omega | (simp; done) | (simp; omega) | exact Below.size (by assumption) | exact Nat.le_trans (Below.size (by assumption)) (by simp)))))⟩
  have hm1 : (m == -1) = false := by rw [beq_eq_false_iff_ne]; exact hmm
  obtain ⟨q, rfl⟩ := Int.eq_ofNat_of_zero_le (show 0 ≤ m by omega)
  have hqS : q < S.length := by have := htg.m1; omega
  have hwl := tw_len htg.w
  have hqW : q < W.length := by omega
  obtain ⟨b6, o6, nm, lv, hy6, hb6, hSq, ks0, ks1⟩ := (hSh.out.rd.below B1).var (i := q) hqS
  obtain ⟨b7, o7, xx, hz7, hb7, hWq, k7⟩ := (hWh.out.2.2.below B1).int (i := q) hqW
  subst hy6 hz7
  obtain ⟨nm', lv', hS', l1, l2, x0, x1, x255⟩ := tw_get htg.s htg.w hWq
  obtain ⟨rfl, rfl⟩ : nm' = nm ∧ lv' = lv := by
    have := Option.some.inj (hS'.symm.trans hSq)
    injection this with a b
    exact ⟨a, b⟩
  have hv2 := Lib.hid (se_at hSq hWq)
  have hq1 : (q : Int) < (W.length : Int) := by omega
  have hq2 : (q : Int) < (S.length : Int) := by omega
  have hq0 : (0 : Int) ≤ (q : Int) := by omega
  replace hSq := Lib.hid hSq
  replace hWq := Lib.hid hWq
  replace hS' := Lib.hid hS'
  replace hmm := Lib.hid hmm
  replace hwl := Lib.hid hwl
  clear htg
  by_cases hx0 : xx = 0
  · have hxb : (xx != 0) = false := by rw [hx0]; rfl
    have hv3 := Lib.hid (show tpZ lv' xx = lv' - 1 from if_pos hx0)
    have q1 : IntKind.i64.wrap (lv' - 1) = lv' - 1 := IntWalk.i64_in _ (by omega)
    replace hx0 := Lib.hid hx0
    go_wp2
    go_ret2
    exact ⟨ret_in (by rw [hv.out.1, hv2.out, hv3.out]) hv.out.2.symm, (by repeat (first | exact Below.refl _ _ | assumption | refine Below.drew ?_ | refine below_drewN ?_ _ | refine Below.alloc' ?_ _ | (refine Below.setCell ?_ (by first | omega | (simp; done) | (simp; omega) | exact Below.size (by assumption) | exact Nat.le_trans (Below.size (by assumption)) (by simp)) _) | (refine Below.via' ?_ (by assumption)) | (refine Below.alloc ?_ (by first | omega | (simp; done) | (simp; omega) | exact Below.size (by assumption) | exact Nat.le_trans (Below.size (by assumption)) (by simp)) _) | (refine Below.via ?_ (by assumption) (by first | omega | (simp; done) | (simp; omega) | exact Below.size (by assumption) | exact Nat.le_trans (Below.size (by assumption)) (by simp)))))⟩
  · have hxb : (xx != 0) = true := by simpa using hx0
    have hv3 := Lib.hid (show tpZ lv' xx = (Lib.bitLen xx.toNat : Int) - 1 from if_neg hx0)
    have hwu : IntKind.u64.wrap xx = xx := by rw [show IntKind.u64.wrap xx = xx % 18446744073709551616 by simp [IntKind.wrap, IntKind.bits, IntKind.signed]]; omega
    have hbl : (Lib.bitLen xx.toNat : Int) ≤ 64 := by
      have hlt := flZ_lt x0 x1
      have h2 := bsF_top ⟨l1, l2⟩ x0 x1
      have h3 := (bsF_bd xx lv'.toNat).2
      rw [h2, hv3.out] at h3
      omega
    have q1 : IntKind.i64.wrap ((Lib.bitLen xx.toNat : Int) - 1) = (Lib.bitLen xx.toNat : Int) - 1 := IntWalk.i64_in _ (by omega)
    replace hx0 := Lib.hid hx0
    go_wp2_with fail
    refine (Try.bits_Len xx _ x0 (by omega)).mono ?_
    rintro e w2 ⟨rfl, rfl⟩
    go_wp2
    go_ret2
    exact ⟨ret_in (by rw [hv.out.1, hv2.out, hv3.out]) hv.out.2.symm, (by repeat (first | exact Below.refl _ _ | assumption | refine Below.drew ?_ | refine below_drewN ?_ _ | refine Below.alloc' ?_ _ | (refine Below.setCell ?_ (by first | omega | (simp; done) | (simp; omega) | exact Below.size (by assumption) | exact Nat.le_trans (Below.size (by assumption)) (by simp)) _) | (refine Below.via' ?_ (by assumption)) | (refine Below.alloc ?_ (by first | omega | (simp; done) | (simp; omega) | exact Below.size (by assumption) | exact Nat.le_trans (Below.size (by assumption)) (by simp)) _) | (refine Below.via ?_ (by assumption) (by first | omega | (simp; done) | (simp; omega) | exact Below.size (by assumption) | exact Nat.le_trans (Below.size (by assumption)) (by simp)))))⟩

set_option maxHeartbeats 16000000 in
theorem uTop_any (p y x z : Option Addr) (c c1 c2 c3 : Nat) (P : List Int) (S : List (ByteArray × Int)) (l : Int) (F W : List Int) (m : Int) (w : World) (htg : TgP P S l F W m) (hP : IIn w p P) (hS : SIn w y c1 S) (hT : TIn w x z F W) :
    Calls Try.prog 79 #[.agg #[.slice p P.length c], .slice y S.length c1, .agg #[.int .i64 l, .slice x F.length c2, .slice z W.length c3, .int .i64 m]] w fun e w' => e = .returned (.int .i64 (seZ S W m)) ∧ Below w.heap.size w w' := by
  have hgh := Lib.hid htg.g
  have hth := Lib.hid htg
  have hl30 := (ge_len htg.g).2
  have hv0 := htg.v
  have hm0 := htg.m0
  clear htg
  have hPh := Lib.hid hP
  have hSh := Lib.hid hS
  have hFh := Lib.hid hT.1
  have hWh := Lib.hid hT.2
  clear hP hS hT
  have p1 := Lib.hid (QB.new w p P.length c 33)
  have p2 := Lib.hid (TQ.new (w.alloc (.cells #[.slice p P.length c] 33)) l x F.length c2 z W.length c3 m 37)
  obtain ⟨w0, hw0⟩ : ∃ w0, w0 = (w.alloc (.cells #[.slice p P.length c] 33)).alloc (.cells #[.int .i64 l, .slice x F.length c2, .slice z W.length c3, .int .i64 m] 37) := ⟨_, rfl⟩
  have B0 : Below w.heap.size w w0 := by rw [hw0]; exact (by repeat (first | exact Below.refl _ _ | assumption | refine Below.drew ?_ | refine below_drewN ?_ _ | refine Below.alloc' ?_ _ | (refine Below.setCell ?_ (by first | omega | (simp; done) | (simp; omega) | exact Below.size (by assumption) | exact Nat.le_trans (Below.size (by assumption)) (by simp)) _) | (refine Below.via' ?_ (by assumption)) | (refine Below.alloc ?_ (by first | omega | (simp; done) | (simp; omega) | exact Below.size (by assumption) | exact Nat.le_trans (Below.size (by assumption)) (by simp)) _) | (refine Below.via ?_ (by assumption) (by first | omega | (simp; done) | (simp; omega) | exact Below.size (by assumption) | exact Nat.le_trans (Below.size (by assumption)) (by simp)))))
  have g0 : Hid (QB w0 w.heap.size p P.length c) := by
    rw [hw0]
    exact p1.out.below (show Below (w.alloc (.cells #[.slice p P.length c] 33)).heap.size (w.alloc (.cells #[.slice p P.length c] 33)) _ from (by repeat (first | exact Below.refl _ _ | assumption | refine Below.drew ?_ | refine below_drewN ?_ _ | refine Below.alloc' ?_ _ | (refine Below.setCell ?_ (by first | omega | (simp; done) | (simp; omega) | exact Below.size (by assumption) | exact Nat.le_trans (Below.size (by assumption)) (by simp)) _) | (refine Below.via' ?_ (by assumption)) | (refine Below.alloc ?_ (by first | omega | (simp; done) | (simp; omega) | exact Below.size (by assumption) | exact Nat.le_trans (Below.size (by assumption)) (by simp)) _) | (refine Below.via ?_ (by assumption) (by first | omega | (simp; done) | (simp; omega) | exact Below.size (by assumption) | exact Nat.le_trans (Below.size (by assumption)) (by simp))))))
  have t0 : Hid (TQ w0 (w.heap.size + 1) l x F.length c2 z W.length c3 m) := by
    have h0 := p2.out
    rw [World.size_alloc, ← hw0] at h0
    exact h0
  have z0 : w0.heap.size = w.heap.size + 1 + 1 := by rw [hw0]; simp
  clear p1 p2
  go_enter Try.func79, Try.ntmps79
  go_wp2_with fail
  rw [← hw0]
  replace hw0 := Lib.hid hw0
  replace z0 := Lib.hid z0
  refine (gLeaves_any _ _ P _ hgh.out (hPh.out.below B0)).mono ?_
  rintro e w1 ⟨v1, rfl, ho1, hb1⟩
  obtain ⟨xL, nL, rfl, -, -⟩ := (OwR.of ho1).form
  have hL1 : Hid (IIn w1 xL (lfL P)) := iin_sel (by omega) (Rd.of_own ho1)
  have hln := sel_len (lfP P) P.length
  have hll : (lfL P).length ≤ 30 := by unfold lfL; omega
  clear ho1
  have B1 : Below w.heap.size w w1 := Below.via' B0 hb1
  have g1 := Lib.hid (g0.out.below hb1)
  have t1 := Lib.hid (t0.out.below hb1)
  clear hb1
  go_wp2
  go_loopw [7, 15] (fun d q wr => ∃ j : Nat, j ≤ (lfL P).length ∧ q = .int .i64 j ∧ d = .bool (dqF P l j) ∧ Below w1.heap.size w1 wr) (fun _ q _ => (lfL P).length - (intOf q).toNat)
  case atStart => exact ⟨0, by omega, by go_num, rfl, Below.refl _ _⟩
  case round =>
    obtain ⟨j, hj, rfl, rfl, hb⟩ := hrel
    have Bw : Below w.heap.size w wr := Below.via' B1 hb
    obtain ⟨ka, kb, kc⟩ := g1.out.below hb
    obtain ⟨ta, tb, tc, td, te⟩ := t1.out.below hb
    by_cases hlt : j < (lfL P).length
    · obtain ⟨bl, off, v, hx, hbl, hLj, hc0⟩ := (hL1.out.below hb).2.2.int hlt
      subst hx
      obtain ⟨k, rfl, hk, -⟩ := sel_mem.1 (List.mem_of_getElem? hLj)
      have hsn := Lib.hid (dqF_snoc (l := l) hLj)
      have hlt' : (j : Int) < ((lfL P).length : Int) := by omega
      replace hLj := Lib.hid hLj
      cases hd : dqF P l j
      · rw [hd] at hsn
        go_wp2_with fail
        refine (gUp_any _ _ P k l _ hgh.out hk (hPh.out.below Bw)).mono ?_
        rintro e w2 ⟨rfl, hb2⟩
        by_cases ha : 0 ≤ anZ P k l
        · have hs2 := Lib.hid (show dqF P l (j + 1) = true by rw [hsn.out, decide_eq_true ha]; rfl)
          have had := Lib.hid (decide_eq_true ha)
          go_wp2
          go_roundw
          case rel => exact ⟨j + 1, by omega, by go_num, by rw [hs2.out]; first | done | rfl | (rw [had.out]), Below.via' hb hb2⟩
          case measure => simp [intOf]; omega
        · have hs2 := Lib.hid (show dqF P l (j + 1) = false by rw [hsn.out, decide_eq_false ha]; rfl)
          have had := Lib.hid (decide_eq_false ha)
          go_wp2
          go_roundw
          case rel => exact ⟨j + 1, by omega, by go_num, by rw [hs2.out]; first | done | rfl | (rw [had.out]), Below.via' hb hb2⟩
          case measure => simp [intOf]; omega
      · have hs2 := Lib.hid (show dqF P l (j + 1) = true by rw [hsn.out, hd]; rfl)
        go_wp2
        go_roundw
        case rel => exact ⟨j + 1, by omega, by go_num, by rw [hs2.out], hb⟩
        case measure => simp [intOf]; omega
    · have hij : j = (lfL P).length := by omega
      subst hij
      have hd : dqF P l (lfL P).length = true := dqF_end hgh.out hv0
      rw [hd]
      replace hd := Lib.hid hd
      by_cases hmm : m < 0
      · have hv2 := Lib.hid (se_one (S := S) (W := W) hmm)
        go_wp2
        go_ret
        exact ⟨ret_int hv2.out.symm, Bw⟩
      obtain ⟨q, rfl⟩ := Int.eq_ofNat_of_zero_le (show 0 ≤ m by omega)
      have hqS : q < S.length := by have := hth.out.m1; omega
      have hwl := tw_len hth.out.w
      have hqW : q < W.length := by omega
      obtain ⟨b6, o6, nm, lv, hy6, hb6, hSq, ks0, ks1⟩ := (hSh.out.rd.below Bw).var (i := q) hqS
      obtain ⟨b7, o7, xx, hz7, hb7, hWq, k7⟩ := (hWh.out.2.2.below Bw).int (i := q) hqW
      subst hy6 hz7
      obtain ⟨nm', lv', hS', l1, l2, x0, x1, x255⟩ := tw_get hth.out.s hth.out.w hWq
      obtain ⟨rfl, rfl⟩ : nm' = nm ∧ lv' = lv := by
        have := Option.some.inj (hS'.symm.trans hSq)
        injection this with a b
        exact ⟨a, b⟩
      have hv2 := Lib.hid (se_at hSq hWq)
      have htop := Lib.hid (bsF_top ⟨l1, l2⟩ x0 x1)
      have hq1 : (q : Int) < (W.length : Int) := by omega
      have hq2 : (q : Int) < (S.length : Int) := by omega
      have hq0 : (0 : Int) ≤ (q : Int) := by omega
      have hqn : ¬ (q : Int) < 0 := by omega
      replace hSq := Lib.hid hSq
      replace hWq := Lib.hid hWq
      replace hS' := Lib.hid hS'
      replace hwl := Lib.hid hwl
      replace hmm := Lib.hid hmm
      obtain ⟨n, rfl⟩ := Int.eq_ofNat_of_zero_le (show 0 ≤ lv' by omega)
      go_wp2
      obtain ⟨wo, hwo⟩ : ∃ wo : World, wo = wr := ⟨_, rfl⟩
      rw [← hwo]
      rw [← hwo] at ka kb kc ta tb tc td te ks0 ks1 k7 Bw
      replace hwo := Lib.hid hwo
      go_loopw [10, 11] (fun b u wr2 => ∃ j2 : Nat, j2 ≤ n ∧ u = .int .i64 j2 ∧ b = .int .i64 (bsF xx j2) ∧ wr2 = wo) (fun _ u _ => n - (intOf u).toNat)
      case atStart => exact ⟨0, by omega, by go_num, rfl, rfl⟩
      case round =>
        obtain ⟨j2, hj2, rfl, rfl, rfl⟩ := hrel
        by_cases hl2 : j2 < n
        · have hl2' : (j2 : Int) < (n : Int) := by omega
          have hsv := shr_one x0 (by omega) j2
          have hwu : IntKind.u64.wrap (j2 : Int) = j2 := by rw [show IntKind.u64.wrap (j2 : Int) = (j2 : Int) % 18446744073709551616 by simp [IntKind.wrap, IntKind.bits, IntKind.signed]]; omega
          have hj8 : j2 ≤ 8 := by omega
          by_cases hx0 : xx = 0
          · have hxb : (xx == 0) = true := by rw [hx0]; rfl
            have hs2 := Lib.hid (show bsF xx (j2 + 1) = j2 from if_pos (Or.inl hx0))
            replace hx0 := Lib.hid hx0
            replace hsv := Lib.hid hsv
            go_wp2
            go_roundw
            case rel => exact ⟨j2 + 1, by omega, by go_num, by rw [hs2.out], by first | rfl | trivial⟩
            case measure => simp [intOf]; omega
          · have hxb : (xx == 0) = false := by rw [beq_eq_false_iff_ne]; exact hx0
            cases hh : hsB xx (j2 : Int)
            · have hs2 := Lib.hid (show bsF xx (j2 + 1) = bsF xx j2 from if_neg (fun e => by rcases e with e | e; exact hx0 e; rw [hh] at e; cases e))
              rw [hh] at hsv
              have hz : (bits .and .i64 (xx / 2 ^ j2) 1 == 1) = false := by rw [hsv]; rfl
              replace hsv := Lib.hid hsv
              replace hx0 := Lib.hid hx0
              go_wp2
              go_roundw
              case rel => exact ⟨j2 + 1, by omega, by go_num, by rw [hs2.out], by first | rfl | trivial⟩
              case measure => simp [intOf]; omega
            · have hs2 := Lib.hid (show bsF xx (j2 + 1) = j2 from if_pos (Or.inr hh))
              rw [hh] at hsv
              have hz : (bits .and .i64 (xx / 2 ^ j2) 1 == 1) = true := by rw [hsv]; rfl
              replace hsv := Lib.hid hsv
              replace hx0 := Lib.hid hx0
              replace hh := Lib.hid hh
              go_wp2
              go_roundw
              case rel => exact ⟨j2 + 1, by omega, by go_num, by rw [hs2.out], by first | rfl | trivial⟩
              case measure => simp [intOf]; omega
        · have hij : j2 = n := by omega
          subst hij
          go_wp2
          go_ret
          exact ⟨ret_int (by rw [hv2.out]; have := htop.out; rwa [Int.toNat_natCast] at this), Bw⟩
set_option maxHeartbeats 4000000 in
theorem sSen_x (p y x z : Option Addr) (c c1 c2 c3 : Nat) (P : List Int) (S : List (ByteArray × Int)) (l : Int) (F W : List Int) (m : Int) (w : World) (hP : IIn w p P) (hS : SIn w y c1 S) (hT : TIn w x z F W) :
    Calls Try.prog 30 #[.agg #[.slice p P.length c], .slice y S.length c1, .agg #[.int .i64 l, .slice x F.length c2, .slice z W.length c3, .int .i64 m]] w fun e w' => e = .returned (.tuple #[.int .i64 (senN P S l F W m), .bool (tgB P S l F W m)]) ∧ Below w.heap.size w w' := by
  have hPh := Lib.hid hP
  have hSh := Lib.hid hS
  have hFh := Lib.hid hT.1
  have hWh := Lib.hid hT.2
  clear hP hS hT
  have p1 := Lib.hid (QB.new w p P.length c 33)
  have p2 := Lib.hid (TQ.new (w.alloc (.cells #[.slice p P.length c] 33)) l x F.length c2 z W.length c3 m 37)
  obtain ⟨w0, hw0⟩ : ∃ w0, w0 = (w.alloc (.cells #[.slice p P.length c] 33)).alloc (.cells #[.int .i64 l, .slice x F.length c2, .slice z W.length c3, .int .i64 m] 37) := ⟨_, rfl⟩
  have B0 : Below w.heap.size w w0 := by rw [hw0]; exact (by repeat (first | exact Below.refl _ _ | assumption | refine Below.drew ?_ | refine below_drewN ?_ _ | refine Below.alloc' ?_ _ | (refine Below.setCell ?_ (by first | omega | (simp; done) | (simp; omega) | exact Below.size (by assumption) | exact Nat.le_trans (Below.size (by assumption)) (by simp)) _) | (refine Below.via' ?_ (by assumption)) | (refine Below.alloc ?_ (by first | omega | (simp; done) | (simp; omega) | exact Below.size (by assumption) | exact Nat.le_trans (Below.size (by assumption)) (by simp)) _) | (refine Below.via ?_ (by assumption) (by first | omega | (simp; done) | (simp; omega) | exact Below.size (by assumption) | exact Nat.le_trans (Below.size (by assumption)) (by simp)))))
  have g0 : Hid (QB w0 w.heap.size p P.length c) := by
    rw [hw0]
    exact p1.out.below (show Below (w.alloc (.cells #[.slice p P.length c] 33)).heap.size (w.alloc (.cells #[.slice p P.length c] 33)) _ from (by repeat (first | exact Below.refl _ _ | assumption | refine Below.drew ?_ | refine below_drewN ?_ _ | refine Below.alloc' ?_ _ | (refine Below.setCell ?_ (by first | omega | (simp; done) | (simp; omega) | exact Below.size (by assumption) | exact Nat.le_trans (Below.size (by assumption)) (by simp)) _) | (refine Below.via' ?_ (by assumption)) | (refine Below.alloc ?_ (by first | omega | (simp; done) | (simp; omega) | exact Below.size (by assumption) | exact Nat.le_trans (Below.size (by assumption)) (by simp)) _) | (refine Below.via ?_ (by assumption) (by first | omega | (simp; done) | (simp; omega) | exact Below.size (by assumption) | exact Nat.le_trans (Below.size (by assumption)) (by simp))))))
  have t0 : Hid (TQ w0 (w.heap.size + 1) l x F.length c2 z W.length c3 m) := by
    have h0 := p2.out
    rw [World.size_alloc, ← hw0] at h0
    exact h0
  have z0 : w0.heap.size = w.heap.size + 1 + 1 := by rw [hw0]; simp
  clear p1 p2
  go_enter Try.func30, Try.ntmps30
  go_wp2_with fail
  rw [← hw0]
  replace hw0 := Lib.hid hw0
  replace z0 := Lib.hid z0
  refine (uGood_any p y x z _ _ _ _ P S l m F W _ (hPh.out.below B0) (hSh.out.below B0) ⟨hFh.out.below B0, hWh.out.below B0⟩).mono ?_
  rintro e w1 ⟨rfl, hb1⟩
  have B1 : Below w.heap.size w w1 := Below.via' B0 hb1
  have g1 := Lib.hid (g0.out.below hb1)
  have t1 := Lib.hid (t0.out.below hb1)
  obtain ⟨ka1, kb1, kc1⟩ := g1.out
  obtain ⟨ta1, tb1, tc1, td1, te1⟩ := t1.out
  try clear ka0 kb0 kc0 ta0 tb0 tc0 td0 te0
  clear hb1
  cases htg : tgB P S l F W m
  · have hv := Lib.hid (show senN P S l F W m = 0 from if_f htg)
    replace htg := Lib.hid htg
    go_wp2
    go_ret2
    exact ⟨ret_in hv.out.symm htg.out.symm, B1⟩
  have hv := Lib.hid (show senN P S l F W m = seZ S W m from if_t htg)
  have htp := tg_iff.1 htg
  replace htg := Lib.hid htg
  go_wp2_with fail
  refine (uTop_any p y x z _ _ _ _ P S l F W m _ htp (hPh.out.below B1) (hSh.out.below B1) ⟨hFh.out.below B1, hWh.out.below B1⟩).mono ?_
  rintro e w2 ⟨rfl, hb2⟩
  clear htp
  go_wp2
  go_ret2
  exact ⟨ret_in hv.out.symm htg.out.symm, Below.via' B1 hb2⟩
end Go.Proofs.Ytpmbenedeakieaa
