/-
  The walks of chapter 3: copies of records, other values; the program's and the model's.
-/
import Derived.Test.YtnmpigedhpdenabRecI
import Derived.Test.YtnmpigedhpdenabApp
import Derived.Laws.CopyOwn
namespace Go.Proofs.Ytnmpigedhpdenab
open Go.RowKit
set_option maxRecDepth 100000

/-- What a slice's room is. -/
def RCap (q : PR) : Prop := q.L.length ≤ q.c ∧ (q.x = none → q.c = 0)
theorem OwD.cap {w : World} {lo hi : Nat} {tr ti : TypeId} {v : Value} {Q : List PR} (h : OwD w lo hi tr ti v Q) : ∀ q ∈ Q, RCap q := fun q hq => by
  obtain ⟨x, c, e, h1, h2⟩ := (h.2.1.1 q hq).form
  unfold PR.v at e
  injection e with e1 _ e2
  exact ⟨by rw [e2]; exact h1, fun e => by rw [e2]; exact h2 (by rw [← e1]; exact e)⟩
/-- A record that a function gives: its values are its own. -/
def RcP (a h : Int) (L : List Int) (w : World) (e : Ending) (w' : World) : Prop :=
  ∃ x c, e = .returned (.agg #[.int .i64 a, .int .i64 h, .slice x L.length c]) ∧ OwR w' w.heap.size w'.heap.size 3 1 (.slice x L.length c) L.length (iC L) ∧ Below w.heap.size w w'

theorem own_heap {w : World} {base e g n : Nat} {xs : List Value} (h : w.ownsRow base e 1 (.slice (some ⟨g, 0, none⟩) n n) n xs) : w.heap[g]? = some (.cells xs.toArray e (0, 0)) := by
  rcases h.2 with ⟨h1, _⟩ | ⟨g', cap, cur, hv, _, hg, _, _, hs, ht⟩
  · cases h1
  · injection hv with h1 h2 h3
    injection h1 with h1
    injection h1 with h1
    subst h1 h3
    rw [hg]
    congr 2
    rw [← ht, List.take_of_length_le (by simp; omega)]
theorem own_of_heap {w : World} {base e g n : Nat} {xs : List Value} (h : w.heap[g]? = some (.cells xs.toArray e (0, 0))) (hb : base ≤ g) (hl : xs.length = n) (hm : n ≤ maxLen) : w.ownsRow base e 1 (.slice (some ⟨g, 0, none⟩) n n) n xs :=
  ⟨by rw [hl, Nat.mul_one], Or.inr ⟨g, n, xs.toArray, rfl, hb, h, Nat.le_refl _, hm, by simp [hl], by simp [← hl]⟩⟩
theorem splice_all {cur cs : List Value} (h : cs.length = cur.length) : splice cur 0 cs = cs := by
  unfold splice
  simp [h]

theorem rd_src {w : World} {x : Option Addr} {cs : List Value} (h : Rd w x cs) (hp : 0 < cs.length) : ∃ ad, x = some ad ∧ ∀ j v, cs[j]? = some v → w.cell? (ad.add j) = some v := by
  rcases h with rfl | ⟨b, off, e, _, hc⟩
  · simp at hp
  · exact ⟨_, e, fun j v hj => by rw [addr_add]; exact hc j v hj⟩

theorem own_spliced {w1 w2 : World} {e g n : Nat} {cur cs : List Value} (h : w1.ownsRow g e 1 (.slice (some ⟨g, 0, none⟩) n n) n cur) (hl : cs.length = n) (hm : n ≤ maxLen) (hg : w2.heap[g]? = some (.cells (splice cur 0 cs).toArray e (0, 0))) : w2.ownsRow g e 1 (.slice (some ⟨g, 0, none⟩) n n) n cs := by
  rw [splice_all (by have := h.1; omega)] at hg
  exact own_of_heap hg (Nat.le_refl _) hl hm
/-- A parameter's box and a result's cells, as they lie behind what left them alone. -/
theorem rec_two {w w2 : World} {a h : Int} {y : Option Addr} {n c : Nat} {t : TypeId} (hb : Below ((w.alloc (.cells #[.int .i64 a, .int .i64 h, .slice y n c] t)).alloc (.cells #[.int .i64 0, .int .i64 0, .slice none 0 0] t)).heap.size ((w.alloc (.cells #[.int .i64 a, .int .i64 h, .slice y n c] t)).alloc (.cells #[.int .i64 0, .int .i64 0, .slice none 0 0] t)) w2) :
    w2.cell? ⟨w.heap.size, 0, none⟩ = some (.int .i64 a) ∧ w2.cell? ⟨w.heap.size, 1, none⟩ = some (.int .i64 h) ∧ w2.cell? ⟨w.heap.size, 2, none⟩ = some (.slice y n c) ∧ w2.frozen? ⟨w.heap.size, 2, none⟩ = false ∧
      w2.cell? ⟨w.heap.size + 1, 0, none⟩ = some (.int .i64 0) ∧ w2.cell? ⟨w.heap.size + 1, 1, none⟩ = some (.int .i64 0) ∧ w2.cell? ⟨w.heap.size + 1, 2, none⟩ = some (.slice none 0 0) ∧
      w2.frozen? ⟨w.heap.size + 1, 0, none⟩ = false ∧ w2.frozen? ⟨w.heap.size + 1, 1, none⟩ = false ∧ w2.frozen? ⟨w.heap.size + 1, 2, none⟩ = false ∧ w.heap.size + 1 + 1 ≤ w2.heap.size := by
  have P2 : Wb w2 w.heap.size t #[.int .i64 a, .int .i64 h, .slice y n c] := ((Wb.new w _ _).kept ((Below.refl _ _).alloc (Nat.le_refl _) _)).kept hb
  have R2 : Wb w2 (w.heap.size + 1) t #[.int .i64 0, .int .i64 0, .slice none 0 0] := by
    have := (Wb.new (w.alloc (.cells #[.int .i64 a, .int .i64 h, .slice y n c] t)) t #[.int .i64 0, .int .i64 0, .slice none 0 0]).kept hb
    simpa using this
  have hs := hb.size
  simp at hs
  exact ⟨(P2.read 0).trans rfl, (P2.read 1).trans rfl, (P2.read 2).trans rfl, P2.free 2, (R2.read 0).trans rfl, (R2.read 1).trans rfl, (R2.read 2).trans rfl, R2.free 0, R2.free 1, R2.free 2, hs⟩

theorem keep_rec {w w2 : World} {a h : Int} {y : Option Addr} {n c : Nat} {t : TypeId} (hb : Below ((w.alloc (.cells #[.int .i64 a, .int .i64 h, .slice y n c] t)).alloc (.cells #[.int .i64 0, .int .i64 0, .slice none 0 0] t)).heap.size ((w.alloc (.cells #[.int .i64 a, .int .i64 h, .slice y n c] t)).alloc (.cells #[.int .i64 0, .int .i64 0, .slice none 0 0] t)) w2) :
    Below ((w.alloc (.cells #[.int .i64 a, .int .i64 h, .slice y n c] t)).alloc (.cells #[.int .i64 0, .int .i64 0, .slice none 0 0] t)).heap.size ((w.alloc (.cells #[.int .i64 a, .int .i64 h, .slice y n c] t)).alloc (.cells #[.int .i64 0, .int .i64 0, .slice none 0 0] t)) w2 ∧
    w2.cell? ⟨w.heap.size, 0, none⟩ = some (.int .i64 a) ∧ w2.cell? ⟨w.heap.size, 1, none⟩ = some (.int .i64 h) ∧ w2.cell? ⟨w.heap.size, 2, none⟩ = some (.slice y n c) := by
  obtain ⟨c0, c1, c2, _⟩ := rec_two hb
  exact ⟨hb, c0, c1, c2⟩

set_option maxHeartbeats 2000000 in
theorem copyRecord_any (a h : Int) (y : Option Addr) (cap : Nat) (L : List Int) (w : World) (hm : L.length ≤ 1048576) (hL : Rd w y (iC L)) :
    Calls Try.prog 173 #[.agg #[.int .i64 a, .int .i64 h, .slice y L.length cap]] w (RcPost a h L w) := by
  obtain ⟨i0, hi, hz0, hz1, hz2⟩ := info_parts Try.infoInt
  have hbb : i0.bytes * L.length ≤ 281474976710656 := by rw [hz2]; omega
  have hmm : L.length ≤ maxLen := by unfold maxLen; omega
  have hLh := Lib.hid hL
  have hk0 := Lib.hid (RB.new w a h y L.length cap 140)
  clear hL
  go_enter Try.func173, Try.ntmps173
  go_wp2_with (first
    | (at_make; go_loud (refine wpList_make_full _ rfl _ _ 23 rfl (w.heap.size + 1 + 1) 3 i0 (.int .i64 0) 1 Try.underlying23 hi hz0 hz1 .i64 .i64 _ _ L.length rfl rfl rfl rfl hbb hmm (by simp) (fun w1 hown hgrow => ?_)); (have hb1 := (Below.refl _ _).grown hgrow (Nat.le_refl _) (by intro k hk; cases hk)); (have hk1 := Lib.hid (hk0.out.below (((Below.refl _ _).alloc (Nat.le_refl _) (.cells #[.int .i64 0, .int .i64 0, .slice none 0 0] 140)).grown hgrow (by simp; try omega) (by intro k hk; cases hk)))); obtain ⟨ka1, kb1, kc1, kd1⟩ := hk1.out; (have hsz1 := hgrow.size); simp at hsz1; simp only [World.size_alloc] at hown; (have hownh := Lib.hid hown); (have hsrc := Lib.hid (rd_src (hLh.out.below (show Below w.heap.size w w1 from (by repeat (first | exact Below.refl _ _ | assumption | refine Below.drew ?_ | refine below_drewN ?_ _ | refine Below.alloc' ?_ _ | (refine Below.setCell ?_ (by first | omega | (simp; done) | (simp; omega) | exact Below.size (by assumption) | exact Nat.le_trans (Below.size (by assumption)) (by simp)) _) | (refine Below.via' ?_ (by assumption)) | (refine Below.alloc ?_ (by first | omega | (simp; done) | (simp; omega) | exact Below.size (by assumption) | exact Nat.le_trans (Below.size (by assumption)) (by simp)) _) | (refine Below.via ?_ (by assumption) (by first | omega | (simp; done) | (simp; omega) | exact Below.size (by assumption) | exact Nat.le_trans (Below.size (by assumption)) (by simp))))))))); (have hb1h := Lib.hid hb1); clear hown hgrow hb1)
    | ((with_reducible show wpList _ _ _ (⟨some 11, _, _, _, _, _⟩ :: _) _ _); go_loud (refine wpList_copy_splice rfl (.tmp 8) (.tmp 10) 23 23 rfl 3 Try.underlying23 (by rw [hi]; exact congrArg some hz1) _ _ _ _ _ _ rfl rfl (w.heap.size + 1 + 1) 0 _ 3 (own_heap hownh.out) (iC L) (by rw [iC_len]; exact (Nat.min_self _).symm) (fun hp => ⟨rfl, hsrc.out hp⟩) (by have := hownh.out.1; rw [iC_len]; omega) (iC_one L) _ _ hb1h.out (by simp) (fun w2 hg2 hb2 => ?_)); go_loud (obtain ⟨c0, c1, c2, f2, d0, d1, d2, e0, e1, e2, hz2⟩ := rec_two hb2; (have hz3 := Nat.lt_of_succ_le hz2); (have hz4 := Nat.lt_of_succ_lt hz3); (have ho2 := Lib.hid (own_spliced hownh.out (iC_len L) hmm hg2.out)); (have hb2h := Lib.hid (Below.via' (W := w) (by repeat (first | exact Below.refl _ _ | assumption | refine Below.drew ?_ | refine below_drewN ?_ _ | refine Below.alloc' ?_ _ | (refine Below.setCell ?_ (by first | omega | (simp; done) | (simp; omega) | exact Below.size (by assumption) | exact Nat.le_trans (Below.size (by assumption)) (by simp)) _) | (refine Below.via' ?_ (by assumption)) | (refine Below.alloc ?_ (by first | omega | (simp; done) | (simp; omega) | exact Below.size (by assumption) | exact Nat.le_trans (Below.size (by assumption)) (by simp)) _) | (refine Below.via ?_ (by assumption) (by first | omega | (simp; done) | (simp; omega) | exact Below.size (by assumption) | exact Nat.le_trans (Below.size (by assumption)) (by simp))))) hb2)); clear hownh hg2 hb2 ka1 kb1 kc1 kd1 hk1 hsrc hb1h)))
  refine bodyPost_ret (v := .agg #[.int .i64 a, .int .i64 h, .slice (some ⟨w.heap.size + 1 + 1, 0, none⟩) L.length L.length]) (by simp [results, Try.results173, go_sem, *]) rfl ⟨_, rfl, OwR.of ?_, ?_⟩
  · refine own_more (base := w.heap.size + 1 + 1) ?_ (by omega)
    repeat (refine ownsRow_setCell_below ?_ (by simp; try omega) _)
    exact ho2.out
  · have hb2 := hb2h.out
    exact (by repeat (first | exact Below.refl _ _ | assumption | refine Below.drew ?_ | refine below_drewN ?_ _ | refine Below.alloc' ?_ _ | (refine Below.setCell ?_ (by first | omega | (simp; done) | (simp; omega) | exact Below.size (by assumption) | exact Nat.le_trans (Below.size (by assumption)) (by simp)) _) | (refine Below.via' ?_ (by assumption)) | (refine Below.alloc ?_ (by first | omega | (simp; done) | (simp; omega) | exact Below.size (by assumption) | exact Nat.le_trans (Below.size (by assumption)) (by simp)) _) | (refine Below.via ?_ (by assumption) (by first | omega | (simp; done) | (simp; omega) | exact Below.size (by assumption) | exact Nat.le_trans (Below.size (by assumption)) (by simp)))))
set_option maxHeartbeats 2000000 in
theorem copyRecords_any (x : Option Addr) (cap : Nat) (Q : List PR) (w : World) (hm : Q.length ≤ 1048576) (hQ : ∀ q ∈ Q, q.L.length ≤ 1048576 ∧ Rd w q.x (iC q.L)) (hS : Rd w x (pC Q)) :
    Calls Try.prog 129 #[.slice x Q.length cap] w (DcPost Q w) := by
  obtain ⟨i0, hi, hz0, hz1, hz2⟩ := info_parts Try.infoRec
  have hbb : i0.bytes * Q.length ≤ 281474976710656 := by rw [hz2]; omega
  have hmm : Q.length ≤ maxLen := by unfold maxLen; omega
  have hQh := Lib.hid hQ
  clear hQ
  go_enter Try.func129, Try.ntmps129
  go_wp2_with (at_make; go_loud (refine wpList_make_full _ rfl _ _ 71 rfl w.heap.size 140 i0 (.agg #[.int .i64 0, .int .i64 0, .slice none 0 0]) 3 Try.underlying71 hi hz0 hz1 .i64 .i64 _ _ Q.length rfl rfl rfl rfl hbb hmm (Nat.le_refl _) (fun w1 hown hgrow => ?_)))
  have hb1 : Below w.heap.size w w1 := (Below.refl _ _).grown hgrow (Nat.le_refl _) (by intro k hk; cases hk)
  have hs1 : w.heap.size + 1 ≤ w1.heap.size := (own_lt hown).2
  clear hgrow hi hz0 hz1 hz2
  go_loopw [11] (fun c wr => ∃ (i : Nat) (xs : List Value) (T : List PR), i ≤ Q.length ∧ c = .int .i64 i ∧ wr.ownsRow w.heap.size 140 3 (.slice (some ⟨w.heap.size, 0, none⟩) Q.length Q.length) Q.length xs ∧ Hid (∀ j, j < i * 3 → xs[j]? = (pC T)[j]?) ∧ Hid (pM T = (pM Q).take i ∧ T.length = i) ∧ Hid (OwV wr (w.heap.size + 1) wr.heap.size 3 T) ∧ w.heap.size + 1 ≤ wr.heap.size ∧ Below w.heap.size w wr) (fun c _ => Q.length - (intOf c).toNat)
  case atStart => exact ⟨0, _, [], by omega, rfl, hown, (fun j hj => absurd hj (by omega)), ⟨by simp [pM], rfl⟩, ⟨fun q hq => by simp at hq, by simp⟩, hs1, hb1⟩
  case round =>
    clear hown hb1 hs1
    obtain ⟨i, xs, T, hi, rfl, hown, hdone, hT, hV, hsz, hb⟩ := hrel
    by_cases hlt : i < Q.length
    · obtain ⟨bl, off, q, rfl, hbl, hSi, hc0, hc1, hc2⟩ := (hS.below hb).rec hlt
      obtain ⟨hq1, hq2⟩ := hQh.out q (List.mem_of_getElem? hSi)
      have hq2 := Lib.hid (hq2.below hb)
      obtain ⟨u0, hu0, k0⟩ := own_cell hown (j := i * 3) (by omega)
      obtain ⟨u1, hu1, k1⟩ := own_cell hown (j := i * 3 + 1) (by omega)
      obtain ⟨u2, hu2, k2⟩ := own_cell hown (j := i * 3 + 2) (by omega)
      have f0 := hown.frozenAt (i * 3)
      have f1 := hown.frozenAt (i * 3 + 1)
      have f2 := hown.frozenAt (i * 3 + 2)
      have k4 := (own_lt hown).2
      replace hu0 := Lib.hid hu0
      replace hu1 := Lib.hid hu1
      replace hu2 := Lib.hid hu2
      replace hSi := Lib.hid hSi
      have hoh := Lib.hid hown
      have hlt' : (i : Int) < (Q.length : Int) := by omega
      have hi0 : (0 : Int) ≤ (i : Int) := by omega
      clear hS hown
      go_wp2_with fail
      refine (copyRecord_any _ _ _ _ _ _ hq1 (hq2.out.below (by exact (by repeat (first | exact Below.refl _ _ | assumption | refine Below.drew ?_ | refine below_drewN ?_ _ | refine Below.alloc' ?_ _ | (refine Below.setCell ?_ (by first | omega | (simp; done) | (simp; omega) | exact Below.size (by assumption) | exact Nat.le_trans (Below.size (by assumption)) (by simp)) _) | (refine Below.via' ?_ (by assumption)) | (refine Below.alloc ?_ (by first | omega | (simp; done) | (simp; omega) | exact Below.size (by assumption) | exact Nat.le_trans (Below.size (by assumption)) (by simp)) _) | (refine Below.via ?_ (by assumption) (by first | omega | (simp; done) | (simp; omega) | exact Below.size (by assumption) | exact Nat.le_trans (Below.size (by assumption)) (by simp)))))))).mono ?_
      rintro e w2 ⟨g, rfl, ho2, hb2⟩
      obtain ⟨hcl2, hfr2⟩ := bcell hb2
      have hz2 := hb2.size; (try simp at hz2); (try (have hly2 := Nat.lt_of_succ_le hz2)); (try (have hlx2 := Nat.lt_of_succ_lt hly2)); (try (have hlw2 := Nat.lt_of_succ_lt hlx2)); (try (have hle2 := Nat.le_of_lt hly2))
      have ho2h := Lib.hid ho2
      clear ho2
      go_wp2
      go_roundw
      case rel =>
        have hbx : Below wr.heap.size wr w2 := (by repeat (first | exact Below.refl _ _ | assumption | refine Below.drew ?_ | refine below_drewN ?_ _ | refine Below.alloc' ?_ _ | (refine Below.setCell ?_ (by first | omega | (simp; done) | (simp; omega) | exact Below.size (by assumption) | exact Nat.le_trans (Below.size (by assumption)) (by simp)) _) | (refine Below.via' ?_ (by assumption)) | (refine Below.alloc ?_ (by first | omega | (simp; done) | (simp; omega) | exact Below.size (by assumption) | exact Nat.le_trans (Below.size (by assumption)) (by simp)) _) | (refine Below.via ?_ (by assumption) (by first | omega | (simp; done) | (simp; omega) | exact Below.size (by assumption) | exact Nat.le_trans (Below.size (by assumption)) (by simp)))))
        have hzx := hbx.size
        have st0 := (own_below hoh.out hbx).stored (i * 3) (.int .i64 q.a)
        have st1 := st0.1.stored (i * 3 + 1) (.int .i64 q.h)
        have st2 := st1.1.stored (i * 3 + 2) (PR.v ⟨q.a, q.h, some ⟨g, 0, none⟩, q.L.length, q.L⟩)
        have hoff := ((Off.of_grown (lo := w.heap.size) (hi := w.heap.size + 1) st0.2 (by intro k hk; injection hk with hk; omega)).trans (Off.of_grown st1.2 (by intro k hk; injection hk with hk; omega))).trans (Off.of_grown st2.2 (by intro k hk; injection hk with hk; omega))
        refine ⟨i + 1, _, T ++ [⟨q.a, q.h, some ⟨g, 0, none⟩, q.L.length, q.L⟩], by omega, by go_num, st2.1, (by exact pC_snoc_at (q := ⟨q.a, q.h, some ⟨g, 0, none⟩, q.L.length, q.L⟩) hT.out.2 hlt hoh.out.1 hdone.out), ?_, ?_, ?_, (by repeat (first | exact Below.refl _ _ | assumption | refine Below.drew ?_ | refine below_drewN ?_ _ | refine Below.alloc' ?_ _ | (refine Below.setCell ?_ (by first | omega | (simp; done) | (simp; omega) | exact Below.size (by assumption) | exact Nat.le_trans (Below.size (by assumption)) (by simp)) _) | (refine Below.via' ?_ (by assumption)) | (refine Below.alloc ?_ (by first | omega | (simp; done) | (simp; omega) | exact Below.size (by assumption) | exact Nat.le_trans (Below.size (by assumption)) (by simp)) _) | (refine Below.via ?_ (by assumption) (by first | omega | (simp; done) | (simp; omega) | exact Below.size (by assumption) | exact Nat.le_trans (Below.size (by assumption)) (by simp)))))⟩
        · refine ⟨?_, by simp [hT.out.2]⟩
          rw [pM_app, hT.out.1, take_snoc (pM_at hSi.out)]
          rfl
        · refine OwV.off (lo2 := w.heap.size) (hi2 := w.heap.size + 1) ?_ hoff (Or.inr (by omega))
          exact (((hV.out.below hbx).snoc (ho2h.out.more (by simp) (Nat.le_refl _)) (by omega) (by omega))).more (Nat.le_refl _) (by simp)
        · simp; omega
      case measure => simp [intOf]; omega
    · have hij : i = Q.length := by omega
      subst hij
      have hxs : xs = pC T := pC_ext hown.1 hT.out.2 hdone.out
      subst hxs
      have hTl := hT.out.2
      have hTm : Hid (pM T = pM Q) := by have := hT.out.1; unfold Hid; rwa [← pM_len Q, List.take_length] at this
      have hres : Hid (OwD wr w.heap.size wr.heap.size 140 3 (.slice (some ⟨w.heap.size, 0, none⟩) T.length T.length) T) := by
        rw [hTl]
        refine ⟨?_, hV.out.more (by omega) (Nat.le_refl _), fun q hq k hk e => ?_⟩
        · rw [hTl]; exact OwR.of hown
        · have := (hV.out.1 q hq).2 k e
          injection hk with hk
          simp at hk
          omega
      clear hS hdone hown hV hT
      rw [← hTl]
      go_wp2
      go_ret
      exact ⟨T, rfl, hTm.out, hres.out, hb⟩


set_option maxHeartbeats 2000000 in
theorem rOwn_any (a h : Int) (y : Option Addr) (cap : Nat) (L : List Int) (w : World) (hm : L.length ≤ 1048576) (hc : L.length ≤ cap) (hnil : y = none → cap = 0) (hL : Rd w y (iC L)) :
    Calls Try.prog 126 #[.agg #[.int .i64 a, .int .i64 h, .slice y L.length cap]] w (RcP a h L w) := by
  have hLh := Lib.hid hL
  clear hL
  have hk0 := Lib.hid (RB.new w a h y L.length cap 140)
  go_enter Try.func126, Try.ntmps126
  go_wp2_with fail
  go_region_held3 (fun w' => Below w.heap.size w w' ∧ w'.cell? ⟨w.heap.size, 0, none⟩ = some (.int .i64 a) ∧ w'.cell? ⟨w.heap.size, 1, none⟩ = some (.int .i64 h) ∧ w'.cell? ⟨w.heap.size, 2, none⟩ = some (.slice y L.length cap)) (first | (refine ⟨(by repeat (first | exact Below.refl _ _ | assumption | refine Below.drew ?_ | refine below_drewN ?_ _ | refine Below.alloc' ?_ _ | (refine Below.setCell ?_ (by first | omega | (simp; done) | (simp; omega) | exact Below.size (by assumption) | exact Nat.le_trans (Below.size (by assumption)) (by simp)) _) | (refine Below.via' ?_ (by assumption)) | (refine Below.alloc ?_ (by first | omega | (simp; done) | (simp; omega) | exact Below.size (by assumption) | exact Nat.le_trans (Below.size (by assumption)) (by simp)) _) | (refine Below.via ?_ (by assumption) (by first | omega | (simp; done) | (simp; omega) | exact Below.size (by assumption) | exact Nat.le_trans (Below.size (by assumption)) (by simp))))), ?_, ?_, ?_⟩ <;> first | assumption | (go_keep; done))) (first | (go_at_call 102; refine (l1Own_any _ _ L _ hm hc hnil (hLh.out.below (by exact (by repeat (first | exact Below.refl _ _ | assumption | refine Below.drew ?_ | refine below_drewN ?_ _ | refine Below.alloc' ?_ _ | (refine Below.setCell ?_ (by first | omega | (simp; done) | (simp; omega) | exact Below.size (by assumption) | exact Nat.le_trans (Below.size (by assumption)) (by simp)) _) | (refine Below.via' ?_ (by assumption)) | (refine Below.alloc ?_ (by first | omega | (simp; done) | (simp; omega) | exact Below.size (by assumption) | exact Nat.le_trans (Below.size (by assumption)) (by simp)) _) | (refine Below.via ?_ (by assumption) (by first | omega | (simp; done) | (simp; omega) | exact Below.size (by assumption) | exact Nat.le_trans (Below.size (by assumption)) (by simp)))))))).mono ?_; rintro e w2 ⟨u, rfl, ho2, hb2⟩; obtain ⟨x2, n2, rfl, -, -⟩ := (OwR.of ho2).form; obtain ⟨c0, c1, c2, f2, d0, d1, d2, e0, e1, e2, hz2⟩ := rec_two (w := w) (a := a) (h := h) (y := y) (n := L.length) (c := cap) (t := 140) (w2 := w2) (by repeat (first | exact Below.refl _ _ | assumption | refine Below.drew ?_ | refine below_drewN ?_ _ | refine Below.alloc' ?_ _ | (refine Below.setCell ?_ (by first | omega | (simp; done) | (simp; omega) | exact Below.size (by assumption) | exact Nat.le_trans (Below.size (by assumption)) (by simp)) _) | (refine Below.via' ?_ (by assumption)) | (refine Below.alloc ?_ (by first | omega | (simp; done) | (simp; omega) | exact Below.size (by assumption) | exact Nat.le_trans (Below.size (by assumption)) (by simp)) _) | (refine Below.via ?_ (by assumption) (by first | omega | (simp; done) | (simp; omega) | exact Below.size (by assumption) | exact Nat.le_trans (Below.size (by assumption)) (by simp))))); (have hz3 := Nat.lt_of_succ_le hz2); (have hz4 := Nat.lt_of_succ_lt hz3); (have hb2h := Lib.hid (Below.via' (W := w) (by repeat (first | exact Below.refl _ _ | assumption | refine Below.drew ?_ | refine below_drewN ?_ _ | refine Below.alloc' ?_ _ | (refine Below.setCell ?_ (by first | omega | (simp; done) | (simp; omega) | exact Below.size (by assumption) | exact Nat.le_trans (Below.size (by assumption)) (by simp)) _) | (refine Below.via' ?_ (by assumption)) | (refine Below.alloc ?_ (by first | omega | (simp; done) | (simp; omega) | exact Below.size (by assumption) | exact Nat.le_trans (Below.size (by assumption)) (by simp)) _) | (refine Below.via ?_ (by assumption) (by first | omega | (simp; done) | (simp; omega) | exact Below.size (by assumption) | exact Nat.le_trans (Below.size (by assumption)) (by simp))))) hb2)); (have ho2h := Lib.hid ho2); clear ho2))
  rename_i hH
  clear hH
  go_wp2
  have hb2 := hb2h.out
  refine bodyPost_ret (v := .agg #[.int .i64 a, .int .i64 h, .slice x2 L.length n2]) (by simp [results, Try.results126, go_sem, *]) rfl ⟨x2, n2, rfl, OwR.of ?_, ?_⟩
  · refine own_more (base := w.heap.size + 1 + 1) ?_ (by omega)
    repeat (refine ownsRow_setCell_below ?_ (by simp; try omega) _)
    simpa using ho2h.out
  · exact (by repeat (first | exact Below.refl _ _ | assumption | refine Below.drew ?_ | refine below_drewN ?_ _ | refine Below.alloc' ?_ _ | (refine Below.setCell ?_ (by first | omega | (simp; done) | (simp; omega) | exact Below.size (by assumption) | exact Nat.le_trans (Below.size (by assumption)) (by simp)) _) | (refine Below.via' ?_ (by assumption)) | (refine Below.alloc ?_ (by first | omega | (simp; done) | (simp; omega) | exact Below.size (by assumption) | exact Nat.le_trans (Below.size (by assumption)) (by simp)) _) | (refine Below.via ?_ (by assumption) (by first | omega | (simp; done) | (simp; omega) | exact Below.size (by assumption) | exact Nat.le_trans (Below.size (by assumption)) (by simp)))))
end Go.Proofs.Ytnmpigedhpdenab
