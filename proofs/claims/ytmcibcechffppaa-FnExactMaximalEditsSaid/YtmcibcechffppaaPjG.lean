import Derived.Test.YtmcibcechffppaaEdS
import Derived.Test.YtmcibcechffppaaPjE
namespace Go.Proofs.Ytmcibcechffppaa
open Go.RowKit
set_option maxRecDepth 100000

/-- The edits that are marked from k on. -/
def mE (k : Int) : List PR → List PR
  | [] => []
  | q :: r => ⟨q.a, q.h, q.x, q.c, mkL k q.L.length⟩ :: mE (k + q.L.length) r
theorem mE_len : ∀ (k : Int) (Q : List PR), (mE k Q).length = Q.length
  | _, [] => rfl
  | k, q :: r => by simp [mE, mE_len _ r]
theorem mE_app : ∀ (k : Int) (Q T : List PR), mE k (Q ++ T) = mE k Q ++ mE (k + tot Q) T
  | k, [], T => by simp [mE, tot]
  | k, q :: r, T => by
    simp only [List.cons_append, mE, mE_app _ r T]
    congr 3
    unfold tot
    simp only [List.map_cons, List.sum_cons]
    omega
theorem mE_step (k : Int) {Q : List PR} {i : Nat} {q : PR} (h : Q[i]? = some q) (hi : i < Q.length) :
    mE k (Q.take (i + 1)) ++ Q.drop (i + 1) = (mE k (Q.take i) ++ Q.drop i).set i ⟨q.a, q.h, q.x, q.c, mkL (k + tot (Q.take i)) q.L.length⟩ := by
  have hl : (mE k (Q.take i)).length = i := by rw [mE_len, List.length_take]; omega
  have hd : Q.drop i = q :: Q.drop (i + 1) := by
    rw [List.drop_eq_getElem_cons hi]
    rw [List.getElem?_eq_getElem hi] at h
    injection h with h
    rw [h]
  rw [List.set_append_right _ _ (by omega), hl, Nat.sub_self, hd, List.set_cons_zero, take_snoc h, mE_app, List.append_assoc]
  rfl
theorem mE_at (k : Int) {Q : List PR} {i : Nat} {q : PR} (h : Q[i]? = some q) (hi : i < Q.length) :
    (mE k Q)[i]? = some ⟨q.a, q.h, q.x, q.c, mkL (k + tot (Q.take i)) q.L.length⟩ := by
  have hl : (mE k (Q.take i)).length = i := by rw [mE_len, List.length_take]; omega
  have e : mE k Q = mE k (Q.take (i + 1)) ++ mE (k + tot (Q.take (i + 1))) (Q.drop (i + 1)) := by rw [← mE_app, List.take_append_drop]
  rw [e, List.getElem?_append_left (by rw [mE_len, List.length_take]; omega), take_snoc h, mE_app, List.getElem?_append_right (by omega), hl, Nat.sub_self]
  rfl
theorem eC_setL : ∀ (Q : List PR) (i : Nat) (q : PR) (M : List Int), Q[i]? = some q → M.length = q.L.length → eC (Q.set i ⟨q.a, q.h, q.x, q.c, M⟩) = eC Q
  | [], i, q, M, h, _ => by simp at h
  | p :: r, 0, q, M, h, hl => by simp at h; subst h; simp [eC, PR.v, hl]
  | p :: r, i + 1, q, M, h, hl => by
    simp only [List.getElem?_cons_succ] at h
    have := eC_setL r i q M h hl
    unfold eC at this ⊢
    simp only [List.set_cons_succ, List.map_cons, this]
section
variable {w w1 : World} {lo hi : Nat} {te ti : TypeId} {Q : List PR} {i g c : Nat} {q : PR}
/-- The row of edit i is written. -/
theorem OwE.turn {M : List Int} (h : OwE w lo hi te ti (.slice (some ⟨g, 0, none⟩) Q.length c) Q) (hq : Q[i]? = some q) (hl : M.length = q.L.length) (hr : w1.ownsRow lo ti 1 q.v q.L.length (iC M)) (hg : w.grownBy w1 q.v.ownBlock) :
    OwE w1 lo hi te ti (.slice (some ⟨g, 0, none⟩) (Q.set i ⟨q.a, q.h, q.x, q.c, M⟩).length c) (Q.set i ⟨q.a, q.h, q.x, q.c, M⟩) := by
  obtain ⟨h1, h2, h3⟩ := h
  have hmem := List.mem_of_getElem? hq
  have hpv : (PR.mk q.a q.h q.x q.c M).v = q.v := by unfold PR.v; rw [hl]
  refine ⟨⟨?_, fun k hk => h1.2 k hk⟩, ⟨fun r hr2 => ?_, ?_⟩, fun r hr2 k hk => ?_⟩
  · rw [List.length_set, eC_setL Q i q M hq hl]
    refine h1.1.kept hg (Or.inr fun e => h3 q hmem g rfl ?_)
    rw [← e]; rfl
  · rcases mem_set_cases hr2 with rfl | ⟨j, hji, hj⟩
    · rw [hpv]; exact ⟨by rw [hl]; exact hr, (h2.1 q hmem).2⟩
    · have hrm := List.mem_of_getElem? hj
      refine ⟨(h2.1 r hrm).1.kept hg ?_, (h2.1 r hrm).2⟩
      cases hb : r.v.ownBlock with
      | none => exact Or.inl rfl
      | some k => exact Or.inr fun e => blk_ne h2.2 hq hj hji e.symm hb
  · rw [blk_set hq (by rw [hpv])]; exact h2.2
  · rcases mem_set_cases hr2 with rfl | ⟨j, _, hj⟩
    · rw [hpv]; exact h3 q hmem k hk
    · exact h3 r (List.mem_of_getElem? hj) k hk
end
set_option maxHeartbeats 4000000 in
theorem markEditS_any (x : Option Addr) (cap : Nat) (k : Int) (lo hi : Nat) (Q : List PR) (w : World) (hk : 0 ≤ k) (hk2 : k ≤ 1000000000) (hn : Q.length ≤ 1048576) (ht : tot Q ≤ 1048576) (hown : OwE w lo hi 62 3 (.slice x Q.length cap) Q) :
    Calls Try.prog 19 #[.slice x Q.length cap, .int .i64 k] w fun e w' => e = .returned (.int .i64 (k + tot Q)) ∧ OwE w' lo hi 62 3 (.slice x Q.length cap) (mE k Q) ∧ Off lo hi w w' := by
  by_cases h0 : Q.length = 0
  · obtain rfl : Q = [] := List.eq_nil_of_length_eq_zero h0
    have hown := Lib.hid hown
    go_enter Try.func19, Try.ntmps19
    go_wp2
    refine wp_loop_rounds 1 ?_
    rw [rounds_succ]
    go_wp2
    go_ret
    exact ⟨ret_int (by simp [tot]), hown.out, Off.refl _ _ _⟩
  obtain ⟨g, cap', he⟩ := own_some hown.1.1 (by omega)
  injection he with hx _ hc
  subst hx hc
  have hown0 := Lib.hid hown
  clear hown
  go_enter Try.func19, Try.ntmps19
  go_wp2
  go_loopw [1, 5] (fun q c wr => ∃ i : Nat, i ≤ Q.length ∧ c = .int .i64 i ∧ q = .int .i64 (k + tot (Q.take i)) ∧ Hid (OwE wr lo hi 62 3 (.slice (some ⟨g, 0, none⟩) (mE k (Q.take i) ++ Q.drop i).length cap) (mE k (Q.take i) ++ Q.drop i)) ∧ Off lo hi w wr) (fun _ c _ => Q.length - (intOf c).toNat)
  case atStart => exact ⟨0, by omega, rfl, (by rw [tot0]; go_num), (by unfold Hid; simpa [mE] using hown0.out), Off.refl _ _ _⟩
  case round =>
    clear hown0
    obtain ⟨i, hil, rfl, rfl, hown, hb⟩ := hrel
    have hzl : (mE k (Q.take i) ++ Q.drop i).length = Q.length := by rw [List.length_append, mE_len, List.length_take, List.length_drop]; omega
    by_cases hlt : i < Q.length
    · obtain ⟨q, hq⟩ : ∃ q, Q[i]? = some q := ⟨Q[i], List.getElem?_eq_getElem hlt⟩
      have hZ : (mE k (Q.take i) ++ Q.drop i)[i]? = some q := by
        rw [List.getElem?_append_right (by rw [mE_len, List.length_take]; omega), mE_len, List.length_take, Nat.min_eq_left (by omega), Nat.sub_self, List.getElem?_drop, Nat.add_zero, hq]
      have hstep := Lib.hid (mE_step k hq hlt)
      have htt := tot_take hq
      have htl : tot (Q.take (i + 1)) ≤ tot Q := by
        conv => rhs; rw [← List.take_append_drop (i + 1) Q]
        unfold tot
        rw [List.map_append, List.sum_append]
        omega
      generalize hZe : mE k (Q.take i) ++ Q.drop i = Z at hown hZ hzl hstep
      have hti : tot (Q.take i) ≤ 1048576 := by omega
      generalize htie : tot (Q.take i) = t at *
      have hql : q.L.length ≤ 1048576 := by omega
      have ho0 := hown.out.1.1
      rw [hzl] at ho0
      obtain ⟨u0, hu0, k0⟩ := own_cell ho0 (j := i) (by omega)
      have e2 : u0 = .slice q.x q.L.length q.c := Option.some.inj (hu0.symm.trans (eC_at hZ))
      subst e2
      have k4 := (own_lt ho0).2
      have hin := Lib.hid (hown.out.1.2 g rfl)
      clear hu0 ho0
      replace hZ := Lib.hid hZ
      replace hq := Lib.hid hq
      have hlt' : (i : Int) < (Q.length : Int) := by omega
      go_wp2_with fail
      refine (markIntS_any _ _ _ _ lo _ _ (by omega) (by omega) hql (hown.out.2.1.1 _ (List.mem_of_getElem? hZ.out)).1).mono ?_
      rintro e w2 ⟨rfl, hm2, hg2⟩
      have P2 := Lib.hid (hown.out.turn hZ.out (by rw [mkL_len]) hm2 hg2)
      have hbl := Lib.hid ((hown.out.2.1.1 _ (List.mem_of_getElem? hZ.out)).2)
      go_wp2
      go_roundw
      case rel =>
        refine ⟨i + 1, by omega, by go_num, ?_, ?_, ?_⟩
        · rw [htt]
          congr 1
          push_cast
          omega
        · rw [hstep.out]
          exact P2.out
        · exact hb.trans (Off.of_grown hg2 (fun k hk => hbl.out k hk))
      case measure => simp [intOf]; omega
    · have hij : i = Q.length := by omega
      subst hij
      have hown := Lib.hid (show OwE wr lo hi 62 3 (.slice (some ⟨g, 0, none⟩) Q.length cap) (mE k Q) from by simpa [mE_len] using hown.out)
      rw [List.take_length]
      clear hzl
      go_wp2
      go_ret
      exact ⟨rfl, hown.out, hb⟩

set_option maxHeartbeats 4000000 in
theorem heldEditS_any (x : Option Addr) (cap : Nat) (k : Int) (Q : List PR) (w : World) (hk : 0 ≤ k) (hk2 : k ≤ 1000000000) (hn : Q.length ≤ 1048576) (ht : tot Q ≤ 1048576) (hx : Rd w x (eC (mE k Q))) (hxi : ∀ q ∈ mE k Q, Rd w q.x (iC q.L)) :
    Calls Try.prog 20 #[.slice x Q.length cap, .int .i64 k] w fun e w' => e = .returned (.int .i64 (k + tot Q)) ∧ Below w.heap.size w w' := by
  have hxh := Lib.hid hx
  have hih := Lib.hid hxi
  clear hx hxi
  go_enter Try.func20, Try.ntmps20
  go_wp2
  go_loopw [1, 5] (fun q c wr => ∃ i : Nat, i ≤ Q.length ∧ c = .int .i64 i ∧ q = .int .i64 (k + tot (Q.take i)) ∧ Below w.heap.size w wr) (fun _ c _ => Q.length - (intOf c).toNat)
  case atStart => exact ⟨0, by omega, rfl, (by rw [tot0]; go_num), Below.refl _ _⟩
  case round =>
    obtain ⟨i, hi, rfl, rfl, hb⟩ := hrel
    by_cases hlt : i < Q.length
    · obtain ⟨q, hq⟩ : ∃ q, Q[i]? = some q := ⟨Q[i], List.getElem?_eq_getElem hlt⟩
      have htt := tot_take hq
      have htl : tot (Q.take (i + 1)) ≤ tot Q := by
        conv => rhs; rw [← List.take_append_drop (i + 1) Q]
        unfold tot
        rw [List.map_append, List.sum_append]
        omega
      have hma := mE_at k hq hlt
      generalize htie : tot (Q.take i) = t at *
      obtain ⟨bl, off, p, hbx, hbl, hSi, hc0⟩ := (hxh.out.below hb).ed (i := i) (by rw [mE_len]; exact hlt)
      have hrd := Lib.hid ((hih.out p (List.mem_of_getElem? hSi)).below hb)
      obtain rfl := Option.some.inj (hSi.symm.trans hma)
      simp only [mkL_len] at hc0 hrd
      subst hbx
      clear hSi hma
      replace hq := Lib.hid hq
      have hql : q.L.length ≤ 1048576 := by omega
      have hlt' : (i : Int) < (Q.length : Int) := by omega
      have hi0 : (0 : Int) ≤ (i : Int) := by omega
      have hkk : ¬ (k + (t : Int) + (q.L.length : Int) < 0) := by omega
      go_wp2_with fail
      refine (heldIntS_any _ _ _ _ _ (by omega) (by omega) hql (hrd.out.below (by exact (by repeat (first | exact Below.refl _ _ | assumption | refine Below.drew ?_ | refine below_drewN ?_ _ | refine Below.alloc' ?_ _ | (refine Below.setCell ?_ (by first | omega | (simp; done) | (simp; omega) | exact Below.size (by assumption) | exact Nat.le_trans (Below.size (by assumption)) (by simp)) _) | (refine Below.via' ?_ (by assumption)) | (refine Below.alloc ?_ (by first | omega | (simp; done) | (simp; omega) | exact Below.size (by assumption) | exact Nat.le_trans (Below.size (by assumption)) (by simp)) _) | (refine Below.via ?_ (by assumption) (by first | omega | (simp; done) | (simp; omega) | exact Below.size (by assumption) | exact Nat.le_trans (Below.size (by assumption)) (by simp)))))))).mono ?_
      rintro e w2 ⟨rfl, rfl⟩
      go_wp2
      go_roundw
      case rel =>
        refine ⟨i + 1, by omega, by go_num, ?_, (by repeat (first | exact Below.refl _ _ | assumption | refine Below.drew ?_ | refine below_drewN ?_ _ | refine Below.alloc' ?_ _ | (refine Below.setCell ?_ (by first | omega | (simp; done) | (simp; omega) | exact Below.size (by assumption) | exact Nat.le_trans (Below.size (by assumption)) (by simp)) _) | (refine Below.via' ?_ (by assumption)) | (refine Below.alloc ?_ (by first | omega | (simp; done) | (simp; omega) | exact Below.size (by assumption) | exact Nat.le_trans (Below.size (by assumption)) (by simp)) _) | (refine Below.via ?_ (by assumption) (by first | omega | (simp; done) | (simp; omega) | exact Below.size (by assumption) | exact Nat.le_trans (Below.size (by assumption)) (by simp)))))⟩
        rw [htt]
        congr 1
        push_cast
        omega
      case measure => simp [intOf]; omega
    · have hij : i = Q.length := by omega
      subst hij
      rw [List.take_length]
      go_wp2
      go_ret
      exact ⟨rfl, hb⟩
end Go.Proofs.Ytmcibcechffppaa

namespace Go.Proofs.Ytmcibcechffppaa
open Go.ChangeShapes Go.WideShapes Go.ChangeAt Go.RowKit
set_option maxRecDepth 100000

set_option maxHeartbeats 16000000 in
theorem fnExactMaximalEdits_any (xS : Option Addr) (cS : Nat) (S : List (ByteArray × Int)) (xQ : Option Addr) (cQ : Nat) (Q : List PR) (w : World) (hlen : S.length ≤ 9223372036854775807) (hn : Hid (∀ q ∈ S, q.1.size ≤ 9223372036854775807 ∧ IsI64 q.2)) (hS : Hid (Rd w xS (vC S))) (hQ : Hid (EIn0 w xQ Q)) (hlQ : Q.length ≤ 9223372036854775807) :
    Calls Try.prog 4 #[.slice xS S.length cS, .slice xQ Q.length cQ] w fun e w' => e = .returned (.bool true) ∧ Below w.heap.size w w' := by
  go_enter Try.func4, Try.ntmps4
  go_wp2_with fail
  refine (szVariableS_any _ _ S _ _ (by omega) (by omega) hlen (fun p hp => (hn.out p hp).1) (hS.out.below (by exact (by repeat (first | exact Below.refl _ _ | assumption | refine Below.drew ?_ | refine below_drewN ?_ _ | refine Below.alloc' ?_ _ | (refine Below.setCell ?_ (by first | omega | (simp; done) | (simp; omega) | exact Below.size (by assumption) | exact Nat.le_trans (Below.size (by assumption)) (by simp)) _) | (refine Below.via' ?_ (by assumption)) | (refine Below.alloc ?_ (by first | omega | (simp; done) | (simp; omega) | exact Below.size (by assumption) | exact Nat.le_trans (Below.size (by assumption)) (by simp)) _) | (refine Below.via ?_ (by assumption) (by first | omega | (simp; done) | (simp; omega) | exact Below.size (by assumption) | exact Nat.le_trans (Below.size (by assumption)) (by simp)))))))).mono ?_
  rintro e w1 ⟨r1, rfl, hra1, hrb1, hrc1, hb1⟩
  by_cases hr1 : r1 < 0
  · clear hrc1
    go_wp2
    go_ret
    exact ⟨rfl, (by repeat (first | exact Below.refl _ _ | assumption | refine Below.drew ?_ | refine below_drewN ?_ _ | refine Below.alloc' ?_ _ | (refine Below.setCell ?_ (by first | omega | (simp; done) | (simp; omega) | exact Below.size (by assumption) | exact Nat.le_trans (Below.size (by assumption)) (by simp)) _) | (refine Below.via' ?_ (by assumption)) | (refine Below.alloc ?_ (by first | omega | (simp; done) | (simp; omega) | exact Below.size (by assumption) | exact Nat.le_trans (Below.size (by assumption)) (by simp)) _) | (refine Below.via ?_ (by assumption) (by first | omega | (simp; done) | (simp; omega) | exact Below.size (by assumption) | exact Nat.le_trans (Below.size (by assumption)) (by simp)))))⟩
  obtain ⟨hm, hsz⟩ := hrc1 (by omega)
  have hm : S.length ≤ 1048576 := by omega
  clear hrc1 hsz
  go_wp2_with fail
  refine (szEditS_any _ _ Q _ _ (by omega) (by omega) hlQ (fun q hq => (hQ.out.2.1 q hq).1) (hQ.out.2.2.below (by exact (by repeat (first | exact Below.refl _ _ | assumption | refine Below.drew ?_ | refine below_drewN ?_ _ | refine Below.alloc' ?_ _ | (refine Below.setCell ?_ (by first | omega | (simp; done) | (simp; omega) | exact Below.size (by assumption) | exact Nat.le_trans (Below.size (by assumption)) (by simp)) _) | (refine Below.via' ?_ (by assumption)) | (refine Below.alloc ?_ (by first | omega | (simp; done) | (simp; omega) | exact Below.size (by assumption) | exact Nat.le_trans (Below.size (by assumption)) (by simp)) _) | (refine Below.via ?_ (by assumption) (by first | omega | (simp; done) | (simp; omega) | exact Below.size (by assumption) | exact Nat.le_trans (Below.size (by assumption)) (by simp)))))))).mono ?_
  rintro e w2 ⟨r2, rfl, hra2, hrb2, hrc2, hb2⟩
  by_cases hr2 : r2 < 0
  · clear hrc2
    go_wp2
    go_ret
    exact ⟨rfl, (by repeat (first | exact Below.refl _ _ | assumption | refine Below.drew ?_ | refine below_drewN ?_ _ | refine Below.alloc' ?_ _ | (refine Below.setCell ?_ (by first | omega | (simp; done) | (simp; omega) | exact Below.size (by assumption) | exact Nat.le_trans (Below.size (by assumption)) (by simp)) _) | (refine Below.via' ?_ (by assumption)) | (refine Below.alloc ?_ (by first | omega | (simp; done) | (simp; omega) | exact Below.size (by assumption) | exact Nat.le_trans (Below.size (by assumption)) (by simp)) _) | (refine Below.via ?_ (by assumption) (by first | omega | (simp; done) | (simp; omega) | exact Below.size (by assumption) | exact Nat.le_trans (Below.size (by assumption)) (by simp)))))⟩
  have hrd2 := hrc2 (by omega)
  have hmQ : Q.length ≤ 1048576 := by omega
  have htQ : tot Q ≤ 1048576 := by omega
  clear hrc2
  have hLl : (eE (smB S (eM Q)) (mxL S (eM Q) (-1))).length ≤ 1048576 := (mx_tot fun h => h).1
  have hLt : ((eE (smB S (eM Q)) (mxL S (eM Q) (-1))).map List.length).sum ≤ 1048576 := (mx_tot fun h => h).2
  obtain ⟨LL, hLL⟩ : ∃ LL, LL = eE (smB S (eM Q)) (mxL S (eM Q) (-1)) := ⟨_, rfl⟩
  rw [← hLL] at hLl hLt
  replace hLL := Lib.hid hLL
  go_wp2_with fail
  refine (toVariableS_any _ _ S _ hm (hS.out.below (by exact (by repeat (first | exact Below.refl _ _ | assumption | refine Below.drew ?_ | refine below_drewN ?_ _ | refine Below.alloc' ?_ _ | (refine Below.setCell ?_ (by first | omega | (simp; done) | (simp; omega) | exact Below.size (by assumption) | exact Nat.le_trans (Below.size (by assumption)) (by simp)) _) | (refine Below.via' ?_ (by assumption)) | (refine Below.alloc ?_ (by first | omega | (simp; done) | (simp; omega) | exact Below.size (by assumption) | exact Nat.le_trans (Below.size (by assumption)) (by simp)) _) | (refine Below.via ?_ (by assumption) (by first | omega | (simp; done) | (simp; omega) | exact Below.size (by assumption) | exact Nat.le_trans (Below.size (by assumption)) (by simp)))))))).mono ?_
  rintro e w3 ⟨rfl, ho3, hb3⟩
  have hi3 : Hid (SIn w3 (some ⟨w2.heap.size, 0, none⟩) S.length S) := ⟨hm, Nat.le_refl _, hn.out, Rd.of_own ho3⟩
  have hz3 := hb3.size; (try simp at hz3); (try (have hly3 := Nat.lt_of_succ_le hz3)); (try (have hlx3 := Nat.lt_of_succ_lt hly3)); (try (have hlw3 := Nat.lt_of_succ_lt hlx3)); (try (have hle3 := Nat.le_of_lt hly3))
  go_wp2_with fail
  refine (toEditS_any _ _ Q _ hmQ (fun q hq => ⟨by have := tot_mem hq; omega, (hQ.out.2.1 q hq).2.2.below (by exact (by repeat (first | exact Below.refl _ _ | assumption | refine Below.drew ?_ | refine below_drewN ?_ _ | refine Below.alloc' ?_ _ | (refine Below.setCell ?_ (by first | omega | (simp; done) | (simp; omega) | exact Below.size (by assumption) | exact Nat.le_trans (Below.size (by assumption)) (by simp)) _) | (refine Below.via' ?_ (by assumption)) | (refine Below.alloc ?_ (by first | omega | (simp; done) | (simp; omega) | exact Below.size (by assumption) | exact Nat.le_trans (Below.size (by assumption)) (by simp)) _) | (refine Below.via ?_ (by assumption) (by first | omega | (simp; done) | (simp; omega) | exact Below.size (by assumption) | exact Nat.le_trans (Below.size (by assumption)) (by simp))))))⟩) (hQ.out.2.2.below (by exact (by repeat (first | exact Below.refl _ _ | assumption | refine Below.drew ?_ | refine below_drewN ?_ _ | refine Below.alloc' ?_ _ | (refine Below.setCell ?_ (by first | omega | (simp; done) | (simp; omega) | exact Below.size (by assumption) | exact Nat.le_trans (Below.size (by assumption)) (by simp)) _) | (refine Below.via' ?_ (by assumption)) | (refine Below.alloc ?_ (by first | omega | (simp; done) | (simp; omega) | exact Below.size (by assumption) | exact Nat.le_trans (Below.size (by assumption)) (by simp)) _) | (refine Below.via ?_ (by assumption) (by first | omega | (simp; done) | (simp; omega) | exact Below.size (by assumption) | exact Nat.le_trans (Below.size (by assumption)) (by simp)))))))).mono ?_
  rintro e w4 ⟨T4, rfl, hpm4, ho4, hb4⟩
  have hi4 : Hid (EIn w4 (some ⟨w3.heap.size, 0, none⟩) T4) := Lib.hid (EIn.of_owE ho4 hpm4 hQ.out hmQ htQ)
  replace hpm4 := Lib.hid hpm4
  have hz4 := hb4.size; (try simp at hz4); (try (have hly4 := Nat.lt_of_succ_le hz4)); (try (have hlx4 := Nat.lt_of_succ_lt hly4)); (try (have hlw4 := Nat.lt_of_succ_lt hlx4)); (try (have hle4 := Nat.le_of_lt hly4))
  go_wp2_with fail
  refine (sMX_m _ _ _ _ S T4 _ (hi3.out.below (by exact (by repeat (first | exact Below.refl _ _ | assumption | refine Below.drew ?_ | refine below_drewN ?_ _ | refine Below.alloc' ?_ _ | (refine Below.setCell ?_ (by first | omega | (simp; done) | (simp; omega) | exact Below.size (by assumption) | exact Nat.le_trans (Below.size (by assumption)) (by simp)) _) | (refine Below.via' ?_ (by assumption)) | (refine Below.alloc ?_ (by first | omega | (simp; done) | (simp; omega) | exact Below.size (by assumption) | exact Nat.le_trans (Below.size (by assumption)) (by simp)) _) | (refine Below.via ?_ (by assumption) (by first | omega | (simp; done) | (simp; omega) | exact Below.size (by assumption) | exact Nat.le_trans (Below.size (by assumption)) (by simp))))))) (hi4.out.below (by exact (by repeat (first | exact Below.refl _ _ | assumption | refine Below.drew ?_ | refine below_drewN ?_ _ | refine Below.alloc' ?_ _ | (refine Below.setCell ?_ (by first | omega | (simp; done) | (simp; omega) | exact Below.size (by assumption) | exact Nat.le_trans (Below.size (by assumption)) (by simp)) _) | (refine Below.via' ?_ (by assumption)) | (refine Below.alloc ?_ (by first | omega | (simp; done) | (simp; omega) | exact Below.size (by assumption) | exact Nat.le_trans (Below.size (by assumption)) (by simp)) _) | (refine Below.via ?_ (by assumption) (by first | omega | (simp; done) | (simp; omega) | exact Below.size (by assumption) | exact Nat.le_trans (Below.size (by assumption)) (by simp))))))) (eM Q) (show eM T4 = eM Q from hpm4)).mono ?_
  rintro e w5 ⟨u5, T5, rfl, hM5, ho5, hb5⟩
  have hz5 := hb5.size; (try simp at hz5); (try (have hly5 := Nat.lt_of_succ_le hz5)); (try (have hlx5 := Nat.lt_of_succ_lt hly5)); (try (have hlw5 := Nat.lt_of_succ_lt hlx5)); (try (have hle5 := Nat.le_of_lt hly5))
  rw [← hLL.out] at hM5
  have tt5 : tot T5 ≤ 1048576 := by rw [tot_eML, hM5]; exact hLt
  have tl5 : T5.length ≤ 1048576 := by rw [← eM_len, hM5]; exact hLl
  have hM5 := Lib.hid hM5
  have hWr := Lib.hid ho5.owE
  go_wp2_with fail
  refine (toVariableS_any _ _ S _ hm (hS.out.below (by exact (by repeat (first | exact Below.refl _ _ | assumption | refine Below.drew ?_ | refine below_drewN ?_ _ | refine Below.alloc' ?_ _ | (refine Below.setCell ?_ (by first | omega | (simp; done) | (simp; omega) | exact Below.size (by assumption) | exact Nat.le_trans (Below.size (by assumption)) (by simp)) _) | (refine Below.via' ?_ (by assumption)) | (refine Below.alloc ?_ (by first | omega | (simp; done) | (simp; omega) | exact Below.size (by assumption) | exact Nat.le_trans (Below.size (by assumption)) (by simp)) _) | (refine Below.via ?_ (by assumption) (by first | omega | (simp; done) | (simp; omega) | exact Below.size (by assumption) | exact Nat.le_trans (Below.size (by assumption)) (by simp)))))))).mono ?_
  rintro e w6 ⟨rfl, ho6, hb6⟩
  have hi6 : Hid (SIn w6 (some ⟨w5.heap.size, 0, none⟩) S.length S) := ⟨hm, Nat.le_refl _, hn.out, Rd.of_own ho6⟩
  have hz6 := hb6.size; (try simp at hz6); (try (have hly6 := Nat.lt_of_succ_le hz6)); (try (have hlx6 := Nat.lt_of_succ_lt hly6)); (try (have hlw6 := Nat.lt_of_succ_lt hlx6)); (try (have hle6 := Nat.le_of_lt hly6))
  go_wp2_with fail
  refine (toEditS_any _ _ Q _ hmQ (fun q hq => ⟨by have := tot_mem hq; omega, (hQ.out.2.1 q hq).2.2.below (by exact (by repeat (first | exact Below.refl _ _ | assumption | refine Below.drew ?_ | refine below_drewN ?_ _ | refine Below.alloc' ?_ _ | (refine Below.setCell ?_ (by first | omega | (simp; done) | (simp; omega) | exact Below.size (by assumption) | exact Nat.le_trans (Below.size (by assumption)) (by simp)) _) | (refine Below.via' ?_ (by assumption)) | (refine Below.alloc ?_ (by first | omega | (simp; done) | (simp; omega) | exact Below.size (by assumption) | exact Nat.le_trans (Below.size (by assumption)) (by simp)) _) | (refine Below.via ?_ (by assumption) (by first | omega | (simp; done) | (simp; omega) | exact Below.size (by assumption) | exact Nat.le_trans (Below.size (by assumption)) (by simp))))))⟩) (hQ.out.2.2.below (by exact (by repeat (first | exact Below.refl _ _ | assumption | refine Below.drew ?_ | refine below_drewN ?_ _ | refine Below.alloc' ?_ _ | (refine Below.setCell ?_ (by first | omega | (simp; done) | (simp; omega) | exact Below.size (by assumption) | exact Nat.le_trans (Below.size (by assumption)) (by simp)) _) | (refine Below.via' ?_ (by assumption)) | (refine Below.alloc ?_ (by first | omega | (simp; done) | (simp; omega) | exact Below.size (by assumption) | exact Nat.le_trans (Below.size (by assumption)) (by simp)) _) | (refine Below.via ?_ (by assumption) (by first | omega | (simp; done) | (simp; omega) | exact Below.size (by assumption) | exact Nat.le_trans (Below.size (by assumption)) (by simp)))))))).mono ?_
  rintro e w7 ⟨T7, rfl, hpm7, ho7, hb7⟩
  have hi7 : Hid (EIn w7 (some ⟨w6.heap.size, 0, none⟩) T7) := Lib.hid (EIn.of_owE ho7 hpm7 hQ.out hmQ htQ)
  replace hpm7 := Lib.hid hpm7
  have hz7 := hb7.size; (try simp at hz7); (try (have hly7 := Nat.lt_of_succ_le hz7)); (try (have hlx7 := Nat.lt_of_succ_lt hly7)); (try (have hlw7 := Nat.lt_of_succ_lt hlx7)); (try (have hle7 := Nat.le_of_lt hly7))
  go_wp2_with fail
  refine (iMX_m _ _ _ _ S T7 _ (hi6.out.below (by exact (by repeat (first | exact Below.refl _ _ | assumption | refine Below.drew ?_ | refine below_drewN ?_ _ | refine Below.alloc' ?_ _ | (refine Below.setCell ?_ (by first | omega | (simp; done) | (simp; omega) | exact Below.size (by assumption) | exact Nat.le_trans (Below.size (by assumption)) (by simp)) _) | (refine Below.via' ?_ (by assumption)) | (refine Below.alloc ?_ (by first | omega | (simp; done) | (simp; omega) | exact Below.size (by assumption) | exact Nat.le_trans (Below.size (by assumption)) (by simp)) _) | (refine Below.via ?_ (by assumption) (by first | omega | (simp; done) | (simp; omega) | exact Below.size (by assumption) | exact Nat.le_trans (Below.size (by assumption)) (by simp))))))) (hi7.out.below (by exact (by repeat (first | exact Below.refl _ _ | assumption | refine Below.drew ?_ | refine below_drewN ?_ _ | refine Below.alloc' ?_ _ | (refine Below.setCell ?_ (by first | omega | (simp; done) | (simp; omega) | exact Below.size (by assumption) | exact Nat.le_trans (Below.size (by assumption)) (by simp)) _) | (refine Below.via' ?_ (by assumption)) | (refine Below.alloc ?_ (by first | omega | (simp; done) | (simp; omega) | exact Below.size (by assumption) | exact Nat.le_trans (Below.size (by assumption)) (by simp)) _) | (refine Below.via ?_ (by assumption) (by first | omega | (simp; done) | (simp; omega) | exact Below.size (by assumption) | exact Nat.le_trans (Below.size (by assumption)) (by simp))))))) (eM Q) (show eM T7 = eM Q from hpm7)).mono ?_
  rintro e w8 ⟨u8, T8, rfl, hM8, ho8, hb8⟩
  rw [← hLL.out] at hM8
  have tt8 : tot T8 ≤ 1048576 := by rw [tot_eML, hM8]; exact hLt
  have tl8 : T8.length ≤ 1048576 := by rw [← eM_len, hM8]; exact hLl
  have hM8 := Lib.hid hM8
  have hRr := Lib.hid ho8.owE
  have hz8 := hb8.size; (try simp at hz8); (try (have hly8 := Nat.lt_of_succ_le hz8)); (try (have hlx8 := Nat.lt_of_succ_lt hly8)); (try (have hlw8 := Nat.lt_of_succ_lt hlx8)); (try (have hle8 := Nat.le_of_lt hly8))
  obtain ⟨xW, nW, rfl, -, -⟩ := hWr.out.form
  obtain ⟨xR, nR, rfl, -, -⟩ := hRr.out.form
  have hW8 := Lib.hid (hWr.out.below (show Below w5.heap.size w5 w8 from (by repeat (first | exact Below.refl _ _ | assumption | refine Below.drew ?_ | refine below_drewN ?_ _ | refine Below.alloc' ?_ _ | (refine Below.setCell ?_ (by first | omega | (simp; done) | (simp; omega) | exact Below.size (by assumption) | exact Nat.le_trans (Below.size (by assumption)) (by simp)) _) | (refine Below.via' ?_ (by assumption)) | (refine Below.alloc ?_ (by first | omega | (simp; done) | (simp; omega) | exact Below.size (by assumption) | exact Nat.le_trans (Below.size (by assumption)) (by simp)) _) | (refine Below.via ?_ (by assumption) (by first | omega | (simp; done) | (simp; omega) | exact Below.size (by assumption) | exact Nat.le_trans (Below.size (by assumption)) (by simp)))))))
  go_wp2_with fail
  refine (eqEditS_any _ _ _ _ T8 T5 _ (by omega) (fun q hq => by have := tot_mem hq; omega) (hM5.out.trans hM8.out.symm) hRr.out.1.rd (fun q hq => (hRr.out.2.1.1 q hq).rd) hW8.out.1.rd (fun q hq => (hW8.out.2.1.1 q hq).rd)).mono ?_
  rintro e w9 ⟨rfl, hb9⟩
  go_wp2_with fail
  refine (toVariableS_any _ _ S _ hm (hS.out.below (by exact (by repeat (first | exact Below.refl _ _ | assumption | refine Below.drew ?_ | refine below_drewN ?_ _ | refine Below.alloc' ?_ _ | (refine Below.setCell ?_ (by first | omega | (simp; done) | (simp; omega) | exact Below.size (by assumption) | exact Nat.le_trans (Below.size (by assumption)) (by simp)) _) | (refine Below.via' ?_ (by assumption)) | (refine Below.alloc ?_ (by first | omega | (simp; done) | (simp; omega) | exact Below.size (by assumption) | exact Nat.le_trans (Below.size (by assumption)) (by simp)) _) | (refine Below.via ?_ (by assumption) (by first | omega | (simp; done) | (simp; omega) | exact Below.size (by assumption) | exact Nat.le_trans (Below.size (by assumption)) (by simp)))))))).mono ?_
  rintro e w10 ⟨rfl, ho10, hb10⟩
  have hi10 : Hid (SIn w10 (some ⟨w9.heap.size, 0, none⟩) S.length S) := ⟨hm, Nat.le_refl _, hn.out, Rd.of_own ho10⟩
  have hz10 := hb10.size; (try simp at hz10); (try (have hly10 := Nat.lt_of_succ_le hz10)); (try (have hlx10 := Nat.lt_of_succ_lt hly10)); (try (have hlw10 := Nat.lt_of_succ_lt hlx10)); (try (have hle10 := Nat.le_of_lt hly10))
  go_wp2_with fail
  refine (eqVariableS_any _ _ _ _ S _ hlen (hi6.out.rd.below (by exact (by repeat (first | exact Below.refl _ _ | assumption | refine Below.drew ?_ | refine below_drewN ?_ _ | refine Below.alloc' ?_ _ | (refine Below.setCell ?_ (by first | omega | (simp; done) | (simp; omega) | exact Below.size (by assumption) | exact Nat.le_trans (Below.size (by assumption)) (by simp)) _) | (refine Below.via' ?_ (by assumption)) | (refine Below.alloc ?_ (by first | omega | (simp; done) | (simp; omega) | exact Below.size (by assumption) | exact Nat.le_trans (Below.size (by assumption)) (by simp)) _) | (refine Below.via ?_ (by assumption) (by first | omega | (simp; done) | (simp; omega) | exact Below.size (by assumption) | exact Nat.le_trans (Below.size (by assumption)) (by simp))))))) hi10.out.rd).mono ?_
  rintro e w11 ⟨rfl, hb11⟩
  go_wp2_with fail
  refine (toEditS_any _ _ Q _ hmQ (fun q hq => ⟨by have := tot_mem hq; omega, (hQ.out.2.1 q hq).2.2.below (by exact (by repeat (first | exact Below.refl _ _ | assumption | refine Below.drew ?_ | refine below_drewN ?_ _ | refine Below.alloc' ?_ _ | (refine Below.setCell ?_ (by first | omega | (simp; done) | (simp; omega) | exact Below.size (by assumption) | exact Nat.le_trans (Below.size (by assumption)) (by simp)) _) | (refine Below.via' ?_ (by assumption)) | (refine Below.alloc ?_ (by first | omega | (simp; done) | (simp; omega) | exact Below.size (by assumption) | exact Nat.le_trans (Below.size (by assumption)) (by simp)) _) | (refine Below.via ?_ (by assumption) (by first | omega | (simp; done) | (simp; omega) | exact Below.size (by assumption) | exact Nat.le_trans (Below.size (by assumption)) (by simp))))))⟩) (hQ.out.2.2.below (by exact (by repeat (first | exact Below.refl _ _ | assumption | refine Below.drew ?_ | refine below_drewN ?_ _ | refine Below.alloc' ?_ _ | (refine Below.setCell ?_ (by first | omega | (simp; done) | (simp; omega) | exact Below.size (by assumption) | exact Nat.le_trans (Below.size (by assumption)) (by simp)) _) | (refine Below.via' ?_ (by assumption)) | (refine Below.alloc ?_ (by first | omega | (simp; done) | (simp; omega) | exact Below.size (by assumption) | exact Nat.le_trans (Below.size (by assumption)) (by simp)) _) | (refine Below.via ?_ (by assumption) (by first | omega | (simp; done) | (simp; omega) | exact Below.size (by assumption) | exact Nat.le_trans (Below.size (by assumption)) (by simp)))))))).mono ?_
  rintro e w12 ⟨T12, rfl, hpm12, ho12, hb12⟩
  have hi12 : Hid (EIn w12 (some ⟨w11.heap.size, 0, none⟩) T12) := Lib.hid (EIn.of_owE ho12 hpm12 hQ.out hmQ htQ)
  replace hpm12 := Lib.hid hpm12
  have hz12 := hb12.size; (try simp at hz12); (try (have hly12 := Nat.lt_of_succ_le hz12)); (try (have hlx12 := Nat.lt_of_succ_lt hly12)); (try (have hlw12 := Nat.lt_of_succ_lt hlx12)); (try (have hle12 := Nat.le_of_lt hly12))
  go_wp2_with fail
  refine (eqEditS_any _ _ _ _ T7 T12 _ (hi7.out.below (by exact (by repeat (first | exact Below.refl _ _ | assumption | refine Below.drew ?_ | refine below_drewN ?_ _ | refine Below.alloc' ?_ _ | (refine Below.setCell ?_ (by first | omega | (simp; done) | (simp; omega) | exact Below.size (by assumption) | exact Nat.le_trans (Below.size (by assumption)) (by simp)) _) | (refine Below.via' ?_ (by assumption)) | (refine Below.alloc ?_ (by first | omega | (simp; done) | (simp; omega) | exact Below.size (by assumption) | exact Nat.le_trans (Below.size (by assumption)) (by simp)) _) | (refine Below.via ?_ (by assumption) (by first | omega | (simp; done) | (simp; omega) | exact Below.size (by assumption) | exact Nat.le_trans (Below.size (by assumption)) (by simp))))))).len.1 (hi7.out.below (by exact (by repeat (first | exact Below.refl _ _ | assumption | refine Below.drew ?_ | refine below_drewN ?_ _ | refine Below.alloc' ?_ _ | (refine Below.setCell ?_ (by first | omega | (simp; done) | (simp; omega) | exact Below.size (by assumption) | exact Nat.le_trans (Below.size (by assumption)) (by simp)) _) | (refine Below.via' ?_ (by assumption)) | (refine Below.alloc ?_ (by first | omega | (simp; done) | (simp; omega) | exact Below.size (by assumption) | exact Nat.le_trans (Below.size (by assumption)) (by simp)) _) | (refine Below.via ?_ (by assumption) (by first | omega | (simp; done) | (simp; omega) | exact Below.size (by assumption) | exact Nat.le_trans (Below.size (by assumption)) (by simp))))))).len.2 (hpm12.out.trans hpm7.out.symm) (hi7.out.below (by exact (by repeat (first | exact Below.refl _ _ | assumption | refine Below.drew ?_ | refine below_drewN ?_ _ | refine Below.alloc' ?_ _ | (refine Below.setCell ?_ (by first | omega | (simp; done) | (simp; omega) | exact Below.size (by assumption) | exact Nat.le_trans (Below.size (by assumption)) (by simp)) _) | (refine Below.via' ?_ (by assumption)) | (refine Below.alloc ?_ (by first | omega | (simp; done) | (simp; omega) | exact Below.size (by assumption) | exact Nat.le_trans (Below.size (by assumption)) (by simp)) _) | (refine Below.via ?_ (by assumption) (by first | omega | (simp; done) | (simp; omega) | exact Below.size (by assumption) | exact Nat.le_trans (Below.size (by assumption)) (by simp))))))).2.2 (hi7.out.below (by exact (by repeat (first | exact Below.refl _ _ | assumption | refine Below.drew ?_ | refine below_drewN ?_ _ | refine Below.alloc' ?_ _ | (refine Below.setCell ?_ (by first | omega | (simp; done) | (simp; omega) | exact Below.size (by assumption) | exact Nat.le_trans (Below.size (by assumption)) (by simp)) _) | (refine Below.via' ?_ (by assumption)) | (refine Below.alloc ?_ (by first | omega | (simp; done) | (simp; omega) | exact Below.size (by assumption) | exact Nat.le_trans (Below.size (by assumption)) (by simp)) _) | (refine Below.via ?_ (by assumption) (by first | omega | (simp; done) | (simp; omega) | exact Below.size (by assumption) | exact Nat.le_trans (Below.size (by assumption)) (by simp))))))).inn hi12.out.2.2 hi12.out.inn).mono ?_
  rintro e w13 ⟨rfl, hb13⟩
  have cc0 : w.heap.size ≤ w5.heap.size := (show Below w.heap.size w w5 from (by repeat (first | exact Below.refl _ _ | assumption | refine Below.drew ?_ | refine below_drewN ?_ _ | refine Below.alloc' ?_ _ | (refine Below.setCell ?_ (by first | omega | (simp; done) | (simp; omega) | exact Below.size (by assumption) | exact Nat.le_trans (Below.size (by assumption)) (by simp)) _) | (refine Below.via' ?_ (by assumption)) | (refine Below.alloc ?_ (by first | omega | (simp; done) | (simp; omega) | exact Below.size (by assumption) | exact Nat.le_trans (Below.size (by assumption)) (by simp)) _) | (refine Below.via ?_ (by assumption) (by first | omega | (simp; done) | (simp; omega) | exact Below.size (by assumption) | exact Nat.le_trans (Below.size (by assumption)) (by simp)))))).size
  have cc1 : w5.heap.size ≤ w6.heap.size := (show Below w5.heap.size w5 w6 from (by repeat (first | exact Below.refl _ _ | assumption | refine Below.drew ?_ | refine below_drewN ?_ _ | refine Below.alloc' ?_ _ | (refine Below.setCell ?_ (by first | omega | (simp; done) | (simp; omega) | exact Below.size (by assumption) | exact Nat.le_trans (Below.size (by assumption)) (by simp)) _) | (refine Below.via' ?_ (by assumption)) | (refine Below.alloc ?_ (by first | omega | (simp; done) | (simp; omega) | exact Below.size (by assumption) | exact Nat.le_trans (Below.size (by assumption)) (by simp)) _) | (refine Below.via ?_ (by assumption) (by first | omega | (simp; done) | (simp; omega) | exact Below.size (by assumption) | exact Nat.le_trans (Below.size (by assumption)) (by simp)))))).size
  have cc2 : w6.heap.size ≤ w7.heap.size := (show Below w6.heap.size w6 w7 from (by repeat (first | exact Below.refl _ _ | assumption | refine Below.drew ?_ | refine below_drewN ?_ _ | refine Below.alloc' ?_ _ | (refine Below.setCell ?_ (by first | omega | (simp; done) | (simp; omega) | exact Below.size (by assumption) | exact Nat.le_trans (Below.size (by assumption)) (by simp)) _) | (refine Below.via' ?_ (by assumption)) | (refine Below.alloc ?_ (by first | omega | (simp; done) | (simp; omega) | exact Below.size (by assumption) | exact Nat.le_trans (Below.size (by assumption)) (by simp)) _) | (refine Below.via ?_ (by assumption) (by first | omega | (simp; done) | (simp; omega) | exact Below.size (by assumption) | exact Nat.le_trans (Below.size (by assumption)) (by simp)))))).size
  have cc3 : w7.heap.size ≤ w8.heap.size := (show Below w7.heap.size w7 w8 from (by repeat (first | exact Below.refl _ _ | assumption | refine Below.drew ?_ | refine below_drewN ?_ _ | refine Below.alloc' ?_ _ | (refine Below.setCell ?_ (by first | omega | (simp; done) | (simp; omega) | exact Below.size (by assumption) | exact Nat.le_trans (Below.size (by assumption)) (by simp)) _) | (refine Below.via' ?_ (by assumption)) | (refine Below.alloc ?_ (by first | omega | (simp; done) | (simp; omega) | exact Below.size (by assumption) | exact Nat.le_trans (Below.size (by assumption)) (by simp)) _) | (refine Below.via ?_ (by assumption) (by first | omega | (simp; done) | (simp; omega) | exact Below.size (by assumption) | exact Nat.le_trans (Below.size (by assumption)) (by simp)))))).size
  have cc4 : w8.heap.size ≤ w13.heap.size := (show Below w8.heap.size w8 w13 from (by repeat (first | exact Below.refl _ _ | assumption | refine Below.drew ?_ | refine below_drewN ?_ _ | refine Below.alloc' ?_ _ | (refine Below.setCell ?_ (by first | omega | (simp; done) | (simp; omega) | exact Below.size (by assumption) | exact Nat.le_trans (Below.size (by assumption)) (by simp)) _) | (refine Below.via' ?_ (by assumption)) | (refine Below.alloc ?_ (by first | omega | (simp; done) | (simp; omega) | exact Below.size (by assumption) | exact Nat.le_trans (Below.size (by assumption)) (by simp)) _) | (refine Below.via ?_ (by assumption) (by first | omega | (simp; done) | (simp; omega) | exact Below.size (by assumption) | exact Nat.le_trans (Below.size (by assumption)) (by simp)))))).size
  have XS_13 := (OwR.of ho6).below (show Below w6.heap.size w6 w13 from (by repeat (first | exact Below.refl _ _ | assumption | refine Below.drew ?_ | refine below_drewN ?_ _ | refine Below.alloc' ?_ _ | (refine Below.setCell ?_ (by first | omega | (simp; done) | (simp; omega) | exact Below.size (by assumption) | exact Nat.le_trans (Below.size (by assumption)) (by simp)) _) | (refine Below.via' ?_ (by assumption)) | (refine Below.alloc ?_ (by first | omega | (simp; done) | (simp; omega) | exact Below.size (by assumption) | exact Nat.le_trans (Below.size (by assumption)) (by simp)) _) | (refine Below.via ?_ (by assumption) (by first | omega | (simp; done) | (simp; omega) | exact Below.size (by assumption) | exact Nat.le_trans (Below.size (by assumption)) (by simp))))))
  have XQ_13 := ho7.below (show Below w7.heap.size w7 w13 from (by repeat (first | exact Below.refl _ _ | assumption | refine Below.drew ?_ | refine below_drewN ?_ _ | refine Below.alloc' ?_ _ | (refine Below.setCell ?_ (by first | omega | (simp; done) | (simp; omega) | exact Below.size (by assumption) | exact Nat.le_trans (Below.size (by assumption)) (by simp)) _) | (refine Below.via' ?_ (by assumption)) | (refine Below.alloc ?_ (by first | omega | (simp; done) | (simp; omega) | exact Below.size (by assumption) | exact Nat.le_trans (Below.size (by assumption)) (by simp)) _) | (refine Below.via ?_ (by assumption) (by first | omega | (simp; done) | (simp; omega) | exact Below.size (by assumption) | exact Nat.le_trans (Below.size (by assumption)) (by simp))))))
  have R_13 := hRr.out.below (show Below w8.heap.size w8 w13 from (by repeat (first | exact Below.refl _ _ | assumption | refine Below.drew ?_ | refine below_drewN ?_ _ | refine Below.alloc' ?_ _ | (refine Below.setCell ?_ (by first | omega | (simp; done) | (simp; omega) | exact Below.size (by assumption) | exact Nat.le_trans (Below.size (by assumption)) (by simp)) _) | (refine Below.via' ?_ (by assumption)) | (refine Below.alloc ?_ (by first | omega | (simp; done) | (simp; omega) | exact Below.size (by assumption) | exact Nat.le_trans (Below.size (by assumption)) (by simp)) _) | (refine Below.via ?_ (by assumption) (by first | omega | (simp; done) | (simp; omega) | exact Below.size (by assumption) | exact Nat.le_trans (Below.size (by assumption)) (by simp))))))
  have W_13 := hW8.out.below (show Below w8.heap.size w8 w13 from (by repeat (first | exact Below.refl _ _ | assumption | refine Below.drew ?_ | refine below_drewN ?_ _ | refine Below.alloc' ?_ _ | (refine Below.setCell ?_ (by first | omega | (simp; done) | (simp; omega) | exact Below.size (by assumption) | exact Nat.le_trans (Below.size (by assumption)) (by simp)) _) | (refine Below.via' ?_ (by assumption)) | (refine Below.alloc ?_ (by first | omega | (simp; done) | (simp; omega) | exact Below.size (by assumption) | exact Nat.le_trans (Below.size (by assumption)) (by simp)) _) | (refine Below.via ?_ (by assumption) (by first | omega | (simp; done) | (simp; omega) | exact Below.size (by assumption) | exact Nat.le_trans (Below.size (by assumption)) (by simp))))))
  have B0 : Below w.heap.size w w13 := (by repeat (first | exact Below.refl _ _ | assumption | refine Below.drew ?_ | refine below_drewN ?_ _ | refine Below.alloc' ?_ _ | (refine Below.setCell ?_ (by first | omega | (simp; done) | (simp; omega) | exact Below.size (by assumption) | exact Nat.le_trans (Below.size (by assumption)) (by simp)) _) | (refine Below.via' ?_ (by assumption)) | (refine Below.alloc ?_ (by first | omega | (simp; done) | (simp; omega) | exact Below.size (by assumption) | exact Nat.le_trans (Below.size (by assumption)) (by simp)) _) | (refine Below.via ?_ (by assumption) (by first | omega | (simp; done) | (simp; omega) | exact Below.size (by assumption) | exact Nat.le_trans (Below.size (by assumption)) (by simp)))))
  go_wp2_with fail
  refine (markVariableS_any _ _ _ _ _ _ _ (by omega) (by omega) hm XS_13.1).mono ?_
  rintro e w14 ⟨rfl, -, hg14⟩
  have B14 := Below.mark B0 XS_13 hg14 (by omega)
  have of14 := Off.of_grown hg14 (fun k hk => XS_13.2 k hk)
  have XQ_14 := XQ_13.off of14 (by omega)
  have R_14 := R_13.off of14 (by omega)
  have W_14 := W_13.off of14 (by omega)
  go_wp2_with fail
  have htT15 : tot T7 ≤ 1048576 := by have := tot_eM hpm7.out; omega
  have hlT15 : T7.length ≤ 1048576 := by have := eM_length hpm7.out; omega
  refine (markEditS_any _ _ _ _ _ T7 _ (by omega) (by omega) hlT15 htT15 XQ_14).mono ?_
  rintro e w15 ⟨rfl, -, hg15⟩
  have B15 := Below.off B14 hg15 (by omega)
  have R_15 := R_14.off hg15 (by omega)
  have W_15 := W_14.off hg15 (by omega)
  have hkk : ¬ (1 + 2 * (S.length : Int) + (tot T7 : Int) < 0) := by omega
  go_wp2_with fail
  refine (eqEditS_any _ _ _ _ T8 T5 _ (by omega) (fun q hq => by have := tot_mem hq; omega) (hM5.out.trans hM8.out.symm) R_15.1.rd (fun q hq => (R_15.2.1.1 q hq).rd) W_15.1.rd (fun q hq => (W_15.2.1.1 q hq).rd)).mono ?_
  rintro e w16 ⟨rfl, hb16⟩
  have R_16 := R_15.below (show Below w15.heap.size w15 w16 from (by repeat (first | exact Below.refl _ _ | assumption | refine Below.drew ?_ | refine below_drewN ?_ _ | refine Below.alloc' ?_ _ | (refine Below.setCell ?_ (by first | omega | (simp; done) | (simp; omega) | exact Below.size (by assumption) | exact Nat.le_trans (Below.size (by assumption)) (by simp)) _) | (refine Below.via' ?_ (by assumption)) | (refine Below.alloc ?_ (by first | omega | (simp; done) | (simp; omega) | exact Below.size (by assumption) | exact Nat.le_trans (Below.size (by assumption)) (by simp)) _) | (refine Below.via ?_ (by assumption) (by first | omega | (simp; done) | (simp; omega) | exact Below.size (by assumption) | exact Nat.le_trans (Below.size (by assumption)) (by simp))))))
  have W_16 := W_15.below (show Below w15.heap.size w15 w16 from (by repeat (first | exact Below.refl _ _ | assumption | refine Below.drew ?_ | refine below_drewN ?_ _ | refine Below.alloc' ?_ _ | (refine Below.setCell ?_ (by first | omega | (simp; done) | (simp; omega) | exact Below.size (by assumption) | exact Nat.le_trans (Below.size (by assumption)) (by simp)) _) | (refine Below.via' ?_ (by assumption)) | (refine Below.alloc ?_ (by first | omega | (simp; done) | (simp; omega) | exact Below.size (by assumption) | exact Nat.le_trans (Below.size (by assumption)) (by simp)) _) | (refine Below.via ?_ (by assumption) (by first | omega | (simp; done) | (simp; omega) | exact Below.size (by assumption) | exact Nat.le_trans (Below.size (by assumption)) (by simp))))))
  have B16 : Below w.heap.size w w16 := Below.via' B15 hb16
  go_wp2_with fail
  refine (markEditS_any _ _ _ _ _ T8 _ (by omega) (by omega) tl8 tt8 R_16).mono ?_
  rintro e w17 ⟨rfl, hmk17, hg17⟩
  have B17 := Below.off B16 hg17 (by omega)
  have W_17 := W_16.off hg17 (by omega)
  have kq17 := hg17.size
  have hkq : ¬ (1 + (tot T8 : Int) < 0) := by omega
  have hk17 := Lib.hid hmk17
  have W17 := Lib.hid W_17
  clear hmk17 W_17
  go_wp2_with fail
  refine (heldEditS_any _ _ _ T8 _ (by omega) (by omega) tl8 tt8 (by have h0 := hk17.out.1; rw [mE_len] at h0; exact h0.rd) (fun q hq => (hk17.out.2.1.1 q hq).rd)).mono ?_
  rintro e w18 ⟨rfl, hb18⟩
  have B18 : Below w.heap.size w w18 := Below.via' B17 hb18
  have W18 := Lib.hid (W17.out.below hb18)
  have hk18 := Lib.hid (hk17.out.below hb18)
  go_wp2_with fail
  refine (toVariableS_any _ _ S _ hm (hS.out.below (by exact (by repeat (first | exact Below.refl _ _ | assumption | refine Below.drew ?_ | refine below_drewN ?_ _ | refine Below.alloc' ?_ _ | (refine Below.setCell ?_ (by first | omega | (simp; done) | (simp; omega) | exact Below.size (by assumption) | exact Nat.le_trans (Below.size (by assumption)) (by simp)) _) | (refine Below.via' ?_ (by assumption)) | (refine Below.alloc ?_ (by first | omega | (simp; done) | (simp; omega) | exact Below.size (by assumption) | exact Nat.le_trans (Below.size (by assumption)) (by simp)) _) | (refine Below.via ?_ (by assumption) (by first | omega | (simp; done) | (simp; omega) | exact Below.size (by assumption) | exact Nat.le_trans (Below.size (by assumption)) (by simp)))))))).mono ?_
  rintro e w19 ⟨rfl, ho19, hb19⟩
  have hi19 : Hid (SIn w19 (some ⟨w18.heap.size, 0, none⟩) S.length S) := ⟨hm, Nat.le_refl _, hn.out, Rd.of_own ho19⟩
  have hz19 := hb19.size; (try simp at hz19); (try (have hly19 := Nat.lt_of_succ_le hz19)); (try (have hlx19 := Nat.lt_of_succ_lt hly19)); (try (have hlw19 := Nat.lt_of_succ_lt hlx19)); (try (have hle19 := Nat.le_of_lt hly19))
  go_wp2_with fail
  refine (toEditS_any _ _ Q _ hmQ (fun q hq => ⟨by have := tot_mem hq; omega, (hQ.out.2.1 q hq).2.2.below (by exact (by repeat (first | exact Below.refl _ _ | assumption | refine Below.drew ?_ | refine below_drewN ?_ _ | refine Below.alloc' ?_ _ | (refine Below.setCell ?_ (by first | omega | (simp; done) | (simp; omega) | exact Below.size (by assumption) | exact Nat.le_trans (Below.size (by assumption)) (by simp)) _) | (refine Below.via' ?_ (by assumption)) | (refine Below.alloc ?_ (by first | omega | (simp; done) | (simp; omega) | exact Below.size (by assumption) | exact Nat.le_trans (Below.size (by assumption)) (by simp)) _) | (refine Below.via ?_ (by assumption) (by first | omega | (simp; done) | (simp; omega) | exact Below.size (by assumption) | exact Nat.le_trans (Below.size (by assumption)) (by simp))))))⟩) (hQ.out.2.2.below (by exact (by repeat (first | exact Below.refl _ _ | assumption | refine Below.drew ?_ | refine below_drewN ?_ _ | refine Below.alloc' ?_ _ | (refine Below.setCell ?_ (by first | omega | (simp; done) | (simp; omega) | exact Below.size (by assumption) | exact Nat.le_trans (Below.size (by assumption)) (by simp)) _) | (refine Below.via' ?_ (by assumption)) | (refine Below.alloc ?_ (by first | omega | (simp; done) | (simp; omega) | exact Below.size (by assumption) | exact Nat.le_trans (Below.size (by assumption)) (by simp)) _) | (refine Below.via ?_ (by assumption) (by first | omega | (simp; done) | (simp; omega) | exact Below.size (by assumption) | exact Nat.le_trans (Below.size (by assumption)) (by simp)))))))).mono ?_
  rintro e w20 ⟨T20, rfl, hpm20, ho20, hb20⟩
  have hi20 : Hid (EIn w20 (some ⟨w19.heap.size, 0, none⟩) T20) := Lib.hid (EIn.of_owE ho20 hpm20 hQ.out hmQ htQ)
  replace hpm20 := Lib.hid hpm20
  have hz20 := hb20.size; (try simp at hz20); (try (have hly20 := Nat.lt_of_succ_le hz20)); (try (have hlx20 := Nat.lt_of_succ_lt hly20)); (try (have hlw20 := Nat.lt_of_succ_lt hlx20)); (try (have hle20 := Nat.le_of_lt hly20))
  go_wp2_with fail
  refine (iMX_m _ _ _ _ S T20 _ (hi19.out.below (by exact (by repeat (first | exact Below.refl _ _ | assumption | refine Below.drew ?_ | refine below_drewN ?_ _ | refine Below.alloc' ?_ _ | (refine Below.setCell ?_ (by first | omega | (simp; done) | (simp; omega) | exact Below.size (by assumption) | exact Nat.le_trans (Below.size (by assumption)) (by simp)) _) | (refine Below.via' ?_ (by assumption)) | (refine Below.alloc ?_ (by first | omega | (simp; done) | (simp; omega) | exact Below.size (by assumption) | exact Nat.le_trans (Below.size (by assumption)) (by simp)) _) | (refine Below.via ?_ (by assumption) (by first | omega | (simp; done) | (simp; omega) | exact Below.size (by assumption) | exact Nat.le_trans (Below.size (by assumption)) (by simp))))))) (hi20.out.below (by exact (by repeat (first | exact Below.refl _ _ | assumption | refine Below.drew ?_ | refine below_drewN ?_ _ | refine Below.alloc' ?_ _ | (refine Below.setCell ?_ (by first | omega | (simp; done) | (simp; omega) | exact Below.size (by assumption) | exact Nat.le_trans (Below.size (by assumption)) (by simp)) _) | (refine Below.via' ?_ (by assumption)) | (refine Below.alloc ?_ (by first | omega | (simp; done) | (simp; omega) | exact Below.size (by assumption) | exact Nat.le_trans (Below.size (by assumption)) (by simp)) _) | (refine Below.via ?_ (by assumption) (by first | omega | (simp; done) | (simp; omega) | exact Below.size (by assumption) | exact Nat.le_trans (Below.size (by assumption)) (by simp))))))) (eM Q) (show eM T20 = eM Q from hpm20)).mono ?_
  rintro e w21 ⟨u21, T21, rfl, hM21, ho21, hb21⟩
  have hz21 := hb21.size; (try simp at hz21); (try (have hly21 := Nat.lt_of_succ_le hz21)); (try (have hlx21 := Nat.lt_of_succ_lt hly21)); (try (have hlw21 := Nat.lt_of_succ_lt hlx21)); (try (have hle21 := Nat.le_of_lt hly21))
  rw [← hLL.out] at hM21
  have tt21 : tot T21 ≤ 1048576 := by rw [tot_eML, hM21]; exact hLt
  have tl21 : T21.length ≤ 1048576 := by rw [← eM_len, hM21]; exact hLl
  have hM21 := Lib.hid hM21
  have H := Lib.hid ho21.owE
  obtain ⟨xH, nH, rfl, -, -⟩ := H.out.form
  have W21 := Lib.hid (W18.out.below (show Below w18.heap.size w18 w21 from (by repeat (first | exact Below.refl _ _ | assumption | refine Below.drew ?_ | refine below_drewN ?_ _ | refine Below.alloc' ?_ _ | (refine Below.setCell ?_ (by first | omega | (simp; done) | (simp; omega) | exact Below.size (by assumption) | exact Nat.le_trans (Below.size (by assumption)) (by simp)) _) | (refine Below.via' ?_ (by assumption)) | (refine Below.alloc ?_ (by first | omega | (simp; done) | (simp; omega) | exact Below.size (by assumption) | exact Nat.le_trans (Below.size (by assumption)) (by simp)) _) | (refine Below.via ?_ (by assumption) (by first | omega | (simp; done) | (simp; omega) | exact Below.size (by assumption) | exact Nat.le_trans (Below.size (by assumption)) (by simp)))))))
  have hk21 := Lib.hid (hk18.out.below (show Below w18.heap.size w18 w21 from (by repeat (first | exact Below.refl _ _ | assumption | refine Below.drew ?_ | refine below_drewN ?_ _ | refine Below.alloc' ?_ _ | (refine Below.setCell ?_ (by first | omega | (simp; done) | (simp; omega) | exact Below.size (by assumption) | exact Nat.le_trans (Below.size (by assumption)) (by simp)) _) | (refine Below.via' ?_ (by assumption)) | (refine Below.alloc ?_ (by first | omega | (simp; done) | (simp; omega) | exact Below.size (by assumption) | exact Nat.le_trans (Below.size (by assumption)) (by simp)) _) | (refine Below.via ?_ (by assumption) (by first | omega | (simp; done) | (simp; omega) | exact Below.size (by assumption) | exact Nat.le_trans (Below.size (by assumption)) (by simp)))))))
  go_wp2_with fail
  refine (eqEditS_any _ _ _ _ T21 T5 _ (by omega) (fun q hq => by have := tot_mem hq; omega) (hM5.out.trans hM21.out.symm) H.out.1.rd (fun q hq => (H.out.2.1.1 q hq).rd) W21.out.1.rd (fun q hq => (W21.out.2.1.1 q hq).rd)).mono ?_
  rintro e w22 ⟨rfl, hb22⟩
  have hk22 := Lib.hid (hk21.out.below hb22)
  go_wp2_with fail
  refine (heldEditS_any _ _ _ T8 _ (by omega) (by omega) tl8 tt8 (by have h0 := hk22.out.1; rw [mE_len] at h0; exact h0.rd) (fun q hq => (hk22.out.2.1.1 q hq).rd)).mono ?_
  rintro e w23 ⟨rfl, hb23⟩
  go_wp2
  go_ret
  exact ⟨rfl, (by repeat (first | exact Below.refl _ _ | assumption | refine Below.drew ?_ | refine below_drewN ?_ _ | refine Below.alloc' ?_ _ | (refine Below.setCell ?_ (by first | omega | (simp; done) | (simp; omega) | exact Below.size (by assumption) | exact Nat.le_trans (Below.size (by assumption)) (by simp)) _) | (refine Below.via' ?_ (by assumption)) | (refine Below.alloc ?_ (by first | omega | (simp; done) | (simp; omega) | exact Below.size (by assumption) | exact Nat.le_trans (Below.size (by assumption)) (by simp)) _) | (refine Below.via ?_ (by assumption) (by first | omega | (simp; done) | (simp; omega) | exact Below.size (by assumption) | exact Nat.le_trans (Below.size (by assumption)) (by simp)))))⟩

end Go.Proofs.Ytmcibcechffppaa
