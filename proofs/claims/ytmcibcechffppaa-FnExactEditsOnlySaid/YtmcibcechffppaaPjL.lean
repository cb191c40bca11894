import Derived.Test.YtmcibcechffppaaEdS
import Derived.Test.YtmcibcechffppaaPjQ
namespace Go.Proofs.Ytmcibcechffppaa
open Go.RowKit
set_option maxRecDepth 100000

/-- The edits that are marked from k on. -/
def mE (k : Int) : List PR → List PR
  | [] => []
  | q :: r => ⟨q.a, q.h, q.x, q.c, mkL k q.L.length⟩ :: mE (k + q.L.length) r
theorem mE_len : ∀ (k : Int) (Q : List PR), (mE k Q).length = Q.length
  | _, [] => rfl
  | k, q :: r => by simp [mE, mE_len _ r]
theorem mE_app : ∀ (k : Int) (Q T : List PR), mE k (Q ++ T) = mE k Q ++ mE (k + tot Q) T
  | k, [], T => by simp [mE, tot]
  | k, q :: r, T => by
    simp only [List.cons_append, mE, mE_app _ r T]
    congr 3
    unfold tot
    simp only [List.map_cons, List.sum_cons]
    omega
theorem mE_step (k : Int) {Q : List PR} {i : Nat} {q : PR} (h : Q[i]? = some q) (hi : i < Q.length) :
    mE k (Q.take (i + 1)) ++ Q.drop (i + 1) = (mE k (Q.take i) ++ Q.drop i).set i ⟨q.a, q.h, q.x, q.c, mkL (k + tot (Q.take i)) q.L.length⟩ := by
  have hl : (mE k (Q.take i)).length = i := by rw [mE_len, List.length_take]; omega
  have hd : Q.drop i = q :: Q.drop (i + 1) := by
    rw [List.drop_eq_getElem_cons hi]
    rw [List.getElem?_eq_getElem hi] at h
    injection h with h
    rw [h]
  rw [List.set_append_right _ _ (by omega), hl, Nat.sub_self, hd, List.set_cons_zero, take_snoc h, mE_app, List.append_assoc]
  rfl
theorem mE_at (k : Int) {Q : List PR} {i : Nat} {q : PR} (h : Q[i]? = some q) (hi : i < Q.length) :
    (mE k Q)[i]? = some ⟨q.a, q.h, q.x, q.c, mkL (k + tot (Q.take i)) q.L.length⟩ := by
  have hl : (mE k (Q.take i)).length = i := by rw [mE_len, List.length_take]; omega
  have e : mE k Q = mE k (Q.take (i + 1)) ++ mE (k + tot (Q.take (i + 1))) (Q.drop (i + 1)) := by rw [← mE_app, List.take_append_drop]
  rw [e, List.getElem?_append_left (by rw [mE_len, List.length_take]; omega), take_snoc h, mE_app, List.getElem?_append_right (by omega), hl, Nat.sub_self]
  rfl
theorem eC_setL : ∀ (Q : List PR) (i : Nat) (q : PR) (M : List Int), Q[i]? = some q → M.length = q.L.length → eC (Q.set i ⟨q.a, q.h, q.x, q.c, M⟩) = eC Q
  | [], i, q, M, h, _ => by simp at h
  | p :: r, 0, q, M, h, hl => by simp at h; subst h; simp [eC, PR.v, hl]
  | p :: r, i + 1, q, M, h, hl => by
    simp only [List.getElem?_cons_succ] at h
    have := eC_setL r i q M h hl
    unfold eC at this ⊢
    simp only [List.set_cons_succ, List.map_cons, this]
section
variable {w w1 : World} {lo hi : Nat} {te ti : TypeId} {Q : List PR} {i g c : Nat} {q : PR}
/-- The row of edit i is written. -/
theorem OwE.turn {M : List Int} (h : OwE w lo hi te ti (.slice (some ⟨g, 0, none⟩) Q.length c) Q) (hq : Q[i]? = some q) (hl : M.length = q.L.length) (hr : w1.ownsRow lo ti 1 q.v q.L.length (iC M)) (hg : w.grownBy w1 q.v.ownBlock) :
    OwE w1 lo hi te ti (.slice (some ⟨g, 0, none⟩) (Q.set i ⟨q.a, q.h, q.x, q.c, M⟩).length c) (Q.set i ⟨q.a, q.h, q.x, q.c, M⟩) := by
  obtain ⟨h1, h2, h3⟩ := h
  have hmem := List.mem_of_getElem? hq
  have hpv : (PR.mk q.a q.h q.x q.c M).v = q.v := by unfold PR.v; rw [hl]
  refine ⟨⟨?_, fun k hk => h1.2 k hk⟩, ⟨fun r hr2 => ?_, ?_⟩, fun r hr2 k hk => ?_⟩
  · rw [List.length_set, eC_setL Q i q M hq hl]
    refine h1.1.kept hg (Or.inr fun e => h3 q hmem g rfl ?_)
    rw [← e]; rfl
  · rcases mem_set_cases hr2 with rfl | ⟨j, hji, hj⟩
    · rw [hpv]; exact ⟨by rw [hl]; exact hr, (h2.1 q hmem).2⟩
    · have hrm := List.mem_of_getElem? hj
      refine ⟨(h2.1 r hrm).1.kept hg ?_, (h2.1 r hrm).2⟩
      cases hb : r.v.ownBlock with
      | none => exact Or.inl rfl
      | some k => exact Or.inr fun e => blk_ne h2.2 hq hj hji e.symm hb
  · rw [blk_set hq (by rw [hpv])]; exact h2.2
  · rcases mem_set_cases hr2 with rfl | ⟨j, _, hj⟩
    · rw [hpv]; exact h3 q hmem k hk
    · exact h3 r (List.mem_of_getElem? hj) k hk
end
set_option maxHeartbeats 4000000 in
theorem markEditS_any (x : Option Addr) (cap : Nat) (k : Int) (lo hi : Nat) (Q : List PR) (w : World) (hk : 0 ≤ k) (hk2 : k ≤ 1000000000) (hn : Q.length ≤ 1048576) (ht : tot Q ≤ 1048576) (hown : OwE w lo hi 62 3 (.slice x Q.length cap) Q) :
    Calls Try.prog 19 #[.slice x Q.length cap, .int .i64 k] w fun e w' => e = .returned (.int .i64 (k + tot Q)) ∧ OwE w' lo hi 62 3 (.slice x Q.length cap) (mE k Q) ∧ Off lo hi w w' := by
  by_cases h0 : Q.length = 0
  · obtain rfl : Q = [] := List.eq_nil_of_length_eq_zero h0
    have hown := Lib.hid hown
    go_enter Try.func19, Try.ntmps19
    go_wp2
    refine wp_loop_rounds 1 ?_
    rw [rounds_succ]
    go_wp2
    go_ret
    exact ⟨ret_int (by simp [tot]), hown.out, Off.refl _ _ _⟩
  obtain ⟨g, cap', he⟩ := own_some hown.1.1 (by omega)
  injection he with hx _ hc
  subst hx hc
  have hown0 := Lib.hid hown
  clear hown
  go_enter Try.func19, Try.ntmps19
  go_wp2
  go_loopw [1, 5] (fun q c wr => ∃ i : Nat, i ≤ Q.length ∧ c = .int .i64 i ∧ q = .int .i64 (k + tot (Q.take i)) ∧ Hid (OwE wr lo hi 62 3 (.slice (some ⟨g, 0, none⟩) (mE k (Q.take i) ++ Q.drop i).length cap) (mE k (Q.take i) ++ Q.drop i)) ∧ Off lo hi w wr) (fun _ c _ => Q.length - (intOf c).toNat)
  case atStart => exact ⟨0, by omega, rfl, (by rw [tot0]; go_num), (by unfold Hid; simpa [mE] using hown0.out), Off.refl _ _ _⟩
  case round =>
    clear hown0
    obtain ⟨i, hil, rfl, rfl, hown, hb⟩ := hrel
    have hzl : (mE k (Q.take i) ++ Q.drop i).length = Q.length := by rw [List.length_append, mE_len, List.length_take, List.length_drop]; omega
    by_cases hlt : i < Q.length
    · obtain ⟨q, hq⟩ : ∃ q, Q[i]? = some q := ⟨Q[i], List.getElem?_eq_getElem hlt⟩
      have hZ : (mE k (Q.take i) ++ Q.drop i)[i]? = some q := by
        rw [List.getElem?_append_right (by rw [mE_len, List.length_take]; omega), mE_len, List.length_take, Nat.min_eq_left (by omega), Nat.sub_self, List.getElem?_drop, Nat.add_zero, hq]
      have hstep := Lib.hid (mE_step k hq hlt)
      have htt := tot_take hq
      have htl : tot (Q.take (i + 1)) ≤ tot Q := by
        conv => rhs; rw [← List.take_append_drop (i + 1) Q]
        unfold tot
        rw [List.map_append, List.sum_append]
        omega
      generalize hZe : mE k (Q.take i) ++ Q.drop i = Z at hown hZ hzl hstep
      have hti : tot (Q.take i) ≤ 1048576 := by omega
      generalize htie : tot (Q.take i) = t at *
      have hql : q.L.length ≤ 1048576 := by omega
      have ho0 := hown.out.1.1
      rw [hzl] at ho0
      obtain ⟨u0, hu0, k0⟩ := own_cell ho0 (j := i) (by omega)
      have e2 : u0 = .slice q.x q.L.length q.c := Option.some.inj (hu0.symm.trans (eC_at hZ))
      subst e2
      have k4 := (own_lt ho0).2
      have hin := Lib.hid (hown.out.1.2 g rfl)
      clear hu0 ho0
      replace hZ := Lib.hid hZ
      replace hq := Lib.hid hq
      have hlt' : (i : Int) < (Q.length : Int) := by omega
      go_wp2_with fail
      refine (markIntS_any _ _ _ _ lo _ _ (by omega) (by omega) hql (hown.out.2.1.1 _ (List.mem_of_getElem? hZ.out)).1).mono ?_
      rintro e w2 ⟨rfl, hm2, hg2⟩
      have P2 := Lib.hid (hown.out.turn hZ.out (by rw [mkL_len]) hm2 hg2)
      have hbl := Lib.hid ((hown.out.2.1.1 _ (List.mem_of_getElem? hZ.out)).2)
      go_wp2
      go_roundw
      case rel =>
        refine ⟨i + 1, by omega, by go_num, ?_, ?_, ?_⟩
        · rw [htt]
          congr 1
          push_cast
          omega
        · rw [hstep.out]
          exact P2.out
        · exact hb.trans (Off.of_grown hg2 (fun k hk => hbl.out k hk))
      case measure => simp [intOf]; omega
    · have hij : i = Q.length := by omega
      subst hij
      have hown := Lib.hid (show OwE wr lo hi 62 3 (.slice (some ⟨g, 0, none⟩) Q.length cap) (mE k Q) from by simpa [mE_len] using hown.out)
      rw [List.take_length]
      clear hzl
      go_wp2
      go_ret
      exact ⟨rfl, hown.out, hb⟩

set_option maxHeartbeats 4000000 in
theorem heldEditS_any (x : Option Addr) (cap : Nat) (k : Int) (Q : List PR) (w : World) (hk : 0 ≤ k) (hk2 : k ≤ 1000000000) (hn : Q.length ≤ 1048576) (ht : tot Q ≤ 1048576) (hx : Rd w x (eC (mE k Q))) (hxi : ∀ q ∈ mE k Q, Rd w q.x (iC q.L)) :
    Calls Try.prog 20 #[.slice x Q.length cap, .int .i64 k] w fun e w' => e = .returned (.int .i64 (k + tot Q)) ∧ Below w.heap.size w w' := by
  have hxh := Lib.hid hx
  have hih := Lib.hid hxi
  clear hx hxi
  go_enter Try.func20, Try.ntmps20
  go_wp2
  go_loopw [1, 5] (fun q c wr => ∃ i : Nat, i ≤ Q.length ∧ c = .int .i64 i ∧ q = .int .i64 (k + tot (Q.take i)) ∧ Below w.heap.size w wr) (fun _ c _ => Q.length - (intOf c).toNat)
  case atStart => exact ⟨0, by omega, rfl, (by rw [tot0]; go_num), Below.refl _ _⟩
  case round =>
    obtain ⟨i, hi, rfl, rfl, hb⟩ := hrel
    by_cases hlt : i < Q.length
    · obtain ⟨q, hq⟩ : ∃ q, Q[i]? = some q := ⟨Q[i], List.getElem?_eq_getElem hlt⟩
      have htt := tot_take hq
      have htl : tot (Q.take (i + 1)) ≤ tot Q := by
        conv => rhs; rw [← List.take_append_drop (i + 1) Q]
        unfold tot
        rw [List.map_append, List.sum_append]
        omega
      have hma := mE_at k hq hlt
      generalize htie : tot (Q.take i) = t at *
      obtain ⟨bl, off, p, hbx, hbl, hSi, hc0⟩ := (hxh.out.below hb).ed (i := i) (by rw [mE_len]; exact hlt)
      have hrd := Lib.hid ((hih.out p (List.mem_of_getElem? hSi)).below hb)
      obtain rfl := Option.some.inj (hSi.symm.trans hma)
      simp only [mkL_len] at hc0 hrd
      subst hbx
      clear hSi hma
      replace hq := Lib.hid hq
      have hql : q.L.length ≤ 1048576 := by omega
      have hlt' : (i : Int) < (Q.length : Int) := by omega
      have hi0 : (0 : Int) ≤ (i : Int) := by omega
      have hkk : ¬ (k + (t : Int) + (q.L.length : Int) < 0) := by omega
      go_wp2_with fail
      refine (heldIntS_any _ _ _ _ _ (by omega) (by omega) hql (hrd.out.below (by exact (by repeat (first | exact Below.refl _ _ | assumption | refine Below.drew ?_ | refine below_drewN ?_ _ | refine Below.alloc' ?_ _ | (refine Below.setCell ?_ (by first | omega | (simp; done) | (simp; omega) | exact Below.size (by assumption) | exact Nat.le_trans (Below.size (by assumption)) (by simp)) _) | (refine Below.via' ?_ (by assumption)) | (refine Below.alloc ?_ (by first | omega | (simp; done) | (simp; omega) | exact Below.size (by assumption) | exact Nat.le_trans (Below.size (by assumption)) (by simp)) _) | (refine Below.via ?_ (by assumption) (by first | omega | (simp; done) | (simp; omega) | exact Below.size (by assumption) | exact Nat.le_trans (Below.size (by assumption)) (by simp)))))))).mono ?_
      rintro e w2 ⟨rfl, rfl⟩
      go_wp2
      go_roundw
      case rel =>
        refine ⟨i + 1, by omega, by go_num, ?_, (by repeat (first | exact Below.refl _ _ | assumption | refine Below.drew ?_ | refine below_drewN ?_ _ | refine Below.alloc' ?_ _ | (refine Below.setCell ?_ (by first | omega | (simp; done) | (simp; omega) | exact Below.size (by assumption) | exact Nat.le_trans (Below.size (by assumption)) (by simp)) _) | (refine Below.via' ?_ (by assumption)) | (refine Below.alloc ?_ (by first | omega | (simp; done) | (simp; omega) | exact Below.size (by assumption) | exact Nat.le_trans (Below.size (by assumption)) (by simp)) _) | (refine Below.via ?_ (by assumption) (by first | omega | (simp; done) | (simp; omega) | exact Below.size (by assumption) | exact Nat.le_trans (Below.size (by assumption)) (by simp)))))⟩
        rw [htt]
        congr 1
        push_cast
        omega
      case measure => simp [intOf]; omega
    · have hij : i = Q.length := by omega
      subst hij
      rw [List.take_length]
      go_wp2
      go_ret
      exact ⟨rfl, hb⟩
end Go.Proofs.Ytmcibcechffppaa

namespace Go.Proofs.Ytmcibcechffppaa
open Go.ChangeShapes Go.WideShapes Go.ChangeAt Go.RowKit
set_option maxRecDepth 100000

set_option maxHeartbeats 16000000 in
theorem fnExactEditsOnly_any (xS : Option Addr) (cS : Nat) (S : List (ByteArray × Int)) (xQ : Option Addr) (cQ : Nat) (Q : List PR) (xI : Option Addr) (cI : Nat) (I : List Int) (w : World) (hlen : S.length ≤ 9223372036854775807) (hn : Hid (∀ q ∈ S, q.1.size ≤ 9223372036854775807 ∧ IsI64 q.2)) (hS : Hid (Rd w xS (vC S))) (hQ : Hid (EIn0 w xQ Q)) (hlQ : Q.length ≤ 9223372036854775807) (hlI : I.length ≤ 9223372036854775807) (hnI : Hid (∀ n ∈ I, IsI64 n)) (hI : Hid (Rd w xI (iC I))) :
    Calls Try.prog 6 #[.slice xS S.length cS, .slice xQ Q.length cQ, .slice xI I.length cI] w fun e w' => e = .returned (.bool true) ∧ Below w.heap.size w w' := by
  by_cases hbigI : (1048576 : Int) < (I.length : Int)
  · go_enter Try.func6, Try.ntmps6
    go_wp2
    go_ret
    exact ⟨rfl, (by repeat (first | exact Below.refl _ _ | assumption | refine Below.drew ?_ | refine below_drewN ?_ _ | refine Below.alloc' ?_ _ | (refine Below.setCell ?_ (by first | omega | (simp; done) | (simp; omega) | exact Below.size (by assumption) | exact Nat.le_trans (Below.size (by assumption)) (by simp)) _) | (refine Below.via' ?_ (by assumption)) | (refine Below.alloc ?_ (by first | omega | (simp; done) | (simp; omega) | exact Below.size (by assumption) | exact Nat.le_trans (Below.size (by assumption)) (by simp)) _) | (refine Below.via ?_ (by assumption) (by first | omega | (simp; done) | (simp; omega) | exact Below.size (by assumption) | exact Nat.le_trans (Below.size (by assumption)) (by simp)))))⟩
  have hmI : I.length ≤ 1048576 := by omega
  go_enter Try.func6, Try.ntmps6
  go_wp2_with fail
  refine (szVariableS_any _ _ S _ _ (by omega) (by omega) hlen (fun p hp => (hn.out p hp).1) (hS.out.below (by exact (by repeat (first | exact Below.refl _ _ | assumption | refine Below.drew ?_ | refine below_drewN ?_ _ | refine Below.alloc' ?_ _ | (refine Below.setCell ?_ (by first | omega | (simp; done) | (simp; omega) | exact Below.size (by assumption) | exact Nat.le_trans (Below.size (by assumption)) (by simp)) _) | (refine Below.via' ?_ (by assumption)) | (refine Below.alloc ?_ (by first | omega | (simp; done) | (simp; omega) | exact Below.size (by assumption) | exact Nat.le_trans (Below.size (by assumption)) (by simp)) _) | (refine Below.via ?_ (by assumption) (by first | omega | (simp; done) | (simp; omega) | exact Below.size (by assumption) | exact Nat.le_trans (Below.size (by assumption)) (by simp)))))))).mono ?_
  rintro e w1 ⟨r1, rfl, hra1, hrb1, hrc1, hb1⟩
  by_cases hr1 : r1 < 0
  · clear hrc1
    go_wp2
    go_ret
    exact ⟨rfl, (by repeat (first | exact Below.refl _ _ | assumption | refine Below.drew ?_ | refine below_drewN ?_ _ | refine Below.alloc' ?_ _ | (refine Below.setCell ?_ (by first | omega | (simp; done) | (simp; omega) | exact Below.size (by assumption) | exact Nat.le_trans (Below.size (by assumption)) (by simp)) _) | (refine Below.via' ?_ (by assumption)) | (refine Below.alloc ?_ (by first | omega | (simp; done) | (simp; omega) | exact Below.size (by assumption) | exact Nat.le_trans (Below.size (by assumption)) (by simp)) _) | (refine Below.via ?_ (by assumption) (by first | omega | (simp; done) | (simp; omega) | exact Below.size (by assumption) | exact Nat.le_trans (Below.size (by assumption)) (by simp)))))⟩
  obtain ⟨hm, hsz⟩ := hrc1 (by omega)
  have hm : S.length ≤ 1048576 := by omega
  clear hrc1 hsz
  go_wp2_with fail
  refine (szEditS_any _ _ Q _ _ (by omega) (by omega) hlQ (fun q hq => (hQ.out.2.1 q hq).1) (hQ.out.2.2.below (by exact (by repeat (first | exact Below.refl _ _ | assumption | refine Below.drew ?_ | refine below_drewN ?_ _ | refine Below.alloc' ?_ _ | (refine Below.setCell ?_ (by first | omega | (simp; done) | (simp; omega) | exact Below.size (by assumption) | exact Nat.le_trans (Below.size (by assumption)) (by simp)) _) | (refine Below.via' ?_ (by assumption)) | (refine Below.alloc ?_ (by first | omega | (simp; done) | (simp; omega) | exact Below.size (by assumption) | exact Nat.le_trans (Below.size (by assumption)) (by simp)) _) | (refine Below.via ?_ (by assumption) (by first | omega | (simp; done) | (simp; omega) | exact Below.size (by assumption) | exact Nat.le_trans (Below.size (by assumption)) (by simp)))))))).mono ?_
  rintro e w2 ⟨r2, rfl, hra2, hrb2, hrc2, hb2⟩
  by_cases hr2 : r2 < 0
  · clear hrc2
    go_wp2
    go_ret
    exact ⟨rfl, (by repeat (first | exact Below.refl _ _ | assumption | refine Below.drew ?_ | refine below_drewN ?_ _ | refine Below.alloc' ?_ _ | (refine Below.setCell ?_ (by first | omega | (simp; done) | (simp; omega) | exact Below.size (by assumption) | exact Nat.le_trans (Below.size (by assumption)) (by simp)) _) | (refine Below.via' ?_ (by assumption)) | (refine Below.alloc ?_ (by first | omega | (simp; done) | (simp; omega) | exact Below.size (by assumption) | exact Nat.le_trans (Below.size (by assumption)) (by simp)) _) | (refine Below.via ?_ (by assumption) (by first | omega | (simp; done) | (simp; omega) | exact Below.size (by assumption) | exact Nat.le_trans (Below.size (by assumption)) (by simp)))))⟩
  have hrd2 := hrc2 (by omega)
  have hmQ : Q.length ≤ 1048576 := by omega
  have htQ : tot Q ≤ 1048576 := by omega
  clear hrc2
  have hLl : (eE (eoG S (eM Q) I) (eoL S (eM Q) I)).length ≤ 1048576 := (eo_tot eo_sm).1
  have hLt : ((eE (eoG S (eM Q) I) (eoL S (eM Q) I)).map List.length).sum ≤ 1048576 := (eo_tot eo_sm).2
  obtain ⟨LL, hLL⟩ : ∃ LL, LL = eE (eoG S (eM Q) I) (eoL S (eM Q) I) := ⟨_, rfl⟩
  rw [← hLL] at hLl hLt
  replace hLL := Lib.hid hLL
  go_wp2_with fail
  refine (toVariableS_any _ _ S _ hm (hS.out.below (by exact (by repeat (first | exact Below.refl _ _ | assumption | refine Below.drew ?_ | refine below_drewN ?_ _ | refine Below.alloc' ?_ _ | (refine Below.setCell ?_ (by first | omega | (simp; done) | (simp; omega) | exact Below.size (by assumption) | exact Nat.le_trans (Below.size (by assumption)) (by simp)) _) | (refine Below.via' ?_ (by assumption)) | (refine Below.alloc ?_ (by first | omega | (simp; done) | (simp; omega) | exact Below.size (by assumption) | exact Nat.le_trans (Below.size (by assumption)) (by simp)) _) | (refine Below.via ?_ (by assumption) (by first | omega | (simp; done) | (simp; omega) | exact Below.size (by assumption) | exact Nat.le_trans (Below.size (by assumption)) (by simp)))))))).mono ?_
  rintro e w3 ⟨rfl, ho3, hb3⟩
  have hi3 : Hid (SIn w3 (some ⟨w2.heap.size, 0, none⟩) S.length S) := ⟨hm, Nat.le_refl _, hn.out, Rd.of_own ho3⟩
  have hz3 := hb3.size; (try simp at hz3); (try (have hly3 := Nat.lt_of_succ_le hz3)); (try (have hlx3 := Nat.lt_of_succ_lt hly3)); (try (have hlw3 := Nat.lt_of_succ_lt hlx3)); (try (have hle3 := Nat.le_of_lt hly3))
  go_wp2_with fail
  refine (toEditS_any _ _ Q _ hmQ (fun q hq => ⟨by have := tot_mem hq; omega, (hQ.out.2.1 q hq).2.2.below (by exact (by repeat (first | exact Below.refl _ _ | assumption | refine Below.drew ?_ | refine below_drewN ?_ _ | refine Below.alloc' ?_ _ | (refine Below.setCell ?_ (by first | omega | (simp; done) | (simp; omega) | exact Below.size (by assumption) | exact Nat.le_trans (Below.size (by assumption)) (by simp)) _) | (refine Below.via' ?_ (by assumption)) | (refine Below.alloc ?_ (by first | omega | (simp; done) | (simp; omega) | exact Below.size (by assumption) | exact Nat.le_trans (Below.size (by assumption)) (by simp)) _) | (refine Below.via ?_ (by assumption) (by first | omega | (simp; done) | (simp; omega) | exact Below.size (by assumption) | exact Nat.le_trans (Below.size (by assumption)) (by simp))))))⟩) (hQ.out.2.2.below (by exact (by repeat (first | exact Below.refl _ _ | assumption | refine Below.drew ?_ | refine below_drewN ?_ _ | refine Below.alloc' ?_ _ | (refine Below.setCell ?_ (by first | omega | (simp; done) | (simp; omega) | exact Below.size (by assumption) | exact Nat.le_trans (Below.size (by assumption)) (by simp)) _) | (refine Below.via' ?_ (by assumption)) | (refine Below.alloc ?_ (by first | omega | (simp; done) | (simp; omega) | exact Below.size (by assumption) | exact Nat.le_trans (Below.size (by assumption)) (by simp)) _) | (refine Below.via ?_ (by assumption) (by first | omega | (simp; done) | (simp; omega) | exact Below.size (by assumption) | exact Nat.le_trans (Below.size (by assumption)) (by simp)))))))).mono ?_
  rintro e w4 ⟨T4, rfl, hpm4, ho4, hb4⟩
  have hi4 : Hid (EIn w4 (some ⟨w3.heap.size, 0, none⟩) T4) := Lib.hid (EIn.of_owE ho4 hpm4 hQ.out hmQ htQ)
  replace hpm4 := Lib.hid hpm4
  have hz4 := hb4.size; (try simp at hz4); (try (have hly4 := Nat.lt_of_succ_le hz4)); (try (have hlx4 := Nat.lt_of_succ_lt hly4)); (try (have hlw4 := Nat.lt_of_succ_lt hlx4)); (try (have hle4 := Nat.le_of_lt hly4))
  go_wp2_with fail
  refine (toIntS_any xI cI I _ hmI (hI.out.below (by exact (by repeat (first | exact Below.refl _ _ | assumption | refine Below.drew ?_ | refine below_drewN ?_ _ | refine Below.alloc' ?_ _ | (refine Below.setCell ?_ (by first | omega | (simp; done) | (simp; omega) | exact Below.size (by assumption) | exact Nat.le_trans (Below.size (by assumption)) (by simp)) _) | (refine Below.via' ?_ (by assumption)) | (refine Below.alloc ?_ (by first | omega | (simp; done) | (simp; omega) | exact Below.size (by assumption) | exact Nat.le_trans (Below.size (by assumption)) (by simp)) _) | (refine Below.via ?_ (by assumption) (by first | omega | (simp; done) | (simp; omega) | exact Below.size (by assumption) | exact Nat.le_trans (Below.size (by assumption)) (by simp)))))))).mono ?_
  rintro e w5 ⟨rfl, ho5, hb5⟩
  have hi5 : Hid (IIn w5 (some ⟨w4.heap.size, 0, none⟩) I) := ⟨hmI, hnI.out, Rd.of_own ho5⟩
  have hz5 := hb5.size; (try simp at hz5); (try (have hly5 := Nat.lt_of_succ_le hz5)); (try (have hlx5 := Nat.lt_of_succ_lt hly5)); (try (have hlw5 := Nat.lt_of_succ_lt hlx5)); (try (have hle5 := Nat.le_of_lt hly5))
  go_wp2_with fail
  refine (sEO_m _ _ _ _ _ _ S T4 I _ (hi3.out.below (by exact (by repeat (first | exact Below.refl _ _ | assumption | refine Below.drew ?_ | refine below_drewN ?_ _ | refine Below.alloc' ?_ _ | (refine Below.setCell ?_ (by first | omega | (simp; done) | (simp; omega) | exact Below.size (by assumption) | exact Nat.le_trans (Below.size (by assumption)) (by simp)) _) | (refine Below.via' ?_ (by assumption)) | (refine Below.alloc ?_ (by first | omega | (simp; done) | (simp; omega) | exact Below.size (by assumption) | exact Nat.le_trans (Below.size (by assumption)) (by simp)) _) | (refine Below.via ?_ (by assumption) (by first | omega | (simp; done) | (simp; omega) | exact Below.size (by assumption) | exact Nat.le_trans (Below.size (by assumption)) (by simp))))))) (hi4.out.below (by exact (by repeat (first | exact Below.refl _ _ | assumption | refine Below.drew ?_ | refine below_drewN ?_ _ | refine Below.alloc' ?_ _ | (refine Below.setCell ?_ (by first | omega | (simp; done) | (simp; omega) | exact Below.size (by assumption) | exact Nat.le_trans (Below.size (by assumption)) (by simp)) _) | (refine Below.via' ?_ (by assumption)) | (refine Below.alloc ?_ (by first | omega | (simp; done) | (simp; omega) | exact Below.size (by assumption) | exact Nat.le_trans (Below.size (by assumption)) (by simp)) _) | (refine Below.via ?_ (by assumption) (by first | omega | (simp; done) | (simp; omega) | exact Below.size (by assumption) | exact Nat.le_trans (Below.size (by assumption)) (by simp))))))) (hi5.out.below (by exact (by repeat (first | exact Below.refl _ _ | assumption | refine Below.drew ?_ | refine below_drewN ?_ _ | refine Below.alloc' ?_ _ | (refine Below.setCell ?_ (by first | omega | (simp; done) | (simp; omega) | exact Below.size (by assumption) | exact Nat.le_trans (Below.size (by assumption)) (by simp)) _) | (refine Below.via' ?_ (by assumption)) | (refine Below.alloc ?_ (by first | omega | (simp; done) | (simp; omega) | exact Below.size (by assumption) | exact Nat.le_trans (Below.size (by assumption)) (by simp)) _) | (refine Below.via ?_ (by assumption) (by first | omega | (simp; done) | (simp; omega) | exact Below.size (by assumption) | exact Nat.le_trans (Below.size (by assumption)) (by simp))))))) (eM Q) (show eM T4 = eM Q from hpm4)).mono ?_
  rintro e w6 ⟨u6, T6, rfl, hM6, ho6, hb6⟩
  have hz6 := hb6.size; (try simp at hz6); (try (have hly6 := Nat.lt_of_succ_le hz6)); (try (have hlx6 := Nat.lt_of_succ_lt hly6)); (try (have hlw6 := Nat.lt_of_succ_lt hlx6)); (try (have hle6 := Nat.le_of_lt hly6))
  rw [← hLL.out] at hM6
  have tt6 : tot T6 ≤ 1048576 := by rw [tot_eML, hM6]; exact hLt
  have tl6 : T6.length ≤ 1048576 := by rw [← eM_len, hM6]; exact hLl
  have hM6 := Lib.hid hM6
  have hWr := Lib.hid ho6.owE
  go_wp2_with fail
  refine (toVariableS_any _ _ S _ hm (hS.out.below (by exact (by repeat (first | exact Below.refl _ _ | assumption | refine Below.drew ?_ | refine below_drewN ?_ _ | refine Below.alloc' ?_ _ | (refine Below.setCell ?_ (by first | omega | (simp; done) | (simp; omega) | exact Below.size (by assumption) | exact Nat.le_trans (Below.size (by assumption)) (by simp)) _) | (refine Below.via' ?_ (by assumption)) | (refine Below.alloc ?_ (by first | omega | (simp; done) | (simp; omega) | exact Below.size (by assumption) | exact Nat.le_trans (Below.size (by assumption)) (by simp)) _) | (refine Below.via ?_ (by assumption) (by first | omega | (simp; done) | (simp; omega) | exact Below.size (by assumption) | exact Nat.le_trans (Below.size (by assumption)) (by simp)))))))).mono ?_
  rintro e w7 ⟨rfl, ho7, hb7⟩
  have hi7 : Hid (SIn w7 (some ⟨w6.heap.size, 0, none⟩) S.length S) := ⟨hm, Nat.le_refl _, hn.out, Rd.of_own ho7⟩
  have hz7 := hb7.size; (try simp at hz7); (try (have hly7 := Nat.lt_of_succ_le hz7)); (try (have hlx7 := Nat.lt_of_succ_lt hly7)); (try (have hlw7 := Nat.lt_of_succ_lt hlx7)); (try (have hle7 := Nat.le_of_lt hly7))
  go_wp2_with fail
  refine (toEditS_any _ _ Q _ hmQ (fun q hq => ⟨by have := tot_mem hq; omega, (hQ.out.2.1 q hq).2.2.below (by exact (by repeat (first | exact Below.refl _ _ | assumption | refine Below.drew ?_ | refine below_drewN ?_ _ | refine Below.alloc' ?_ _ | (refine Below.setCell ?_ (by first | omega | (simp; done) | (simp; omega) | exact Below.size (by assumption) | exact Nat.le_trans (Below.size (by assumption)) (by simp)) _) | (refine Below.via' ?_ (by assumption)) | (refine Below.alloc ?_ (by first | omega | (simp; done) | (simp; omega) | exact Below.size (by assumption) | exact Nat.le_trans (Below.size (by assumption)) (by simp)) _) | (refine Below.via ?_ (by assumption) (by first | omega | (simp; done) | (simp; omega) | exact Below.size (by assumption) | exact Nat.le_trans (Below.size (by assumption)) (by simp))))))⟩) (hQ.out.2.2.below (by exact (by repeat (first | exact Below.refl _ _ | assumption | refine Below.drew ?_ | refine below_drewN ?_ _ | refine Below.alloc' ?_ _ | (refine Below.setCell ?_ (by first | omega | (simp; done) | (simp; omega) | exact Below.size (by assumption) | exact Nat.le_trans (Below.size (by assumption)) (by simp)) _) | (refine Below.via' ?_ (by assumption)) | (refine Below.alloc ?_ (by first | omega | (simp; done) | (simp; omega) | exact Below.size (by assumption) | exact Nat.le_trans (Below.size (by assumption)) (by simp)) _) | (refine Below.via ?_ (by assumption) (by first | omega | (simp; done) | (simp; omega) | exact Below.size (by assumption) | exact Nat.le_trans (Below.size (by assumption)) (by simp)))))))).mono ?_
  rintro e w8 ⟨T8, rfl, hpm8, ho8, hb8⟩
  have hi8 : Hid (EIn w8 (some ⟨w7.heap.size, 0, none⟩) T8) := Lib.hid (EIn.of_owE ho8 hpm8 hQ.out hmQ htQ)
  replace hpm8 := Lib.hid hpm8
  have hz8 := hb8.size; (try simp at hz8); (try (have hly8 := Nat.lt_of_succ_le hz8)); (try (have hlx8 := Nat.lt_of_succ_lt hly8)); (try (have hlw8 := Nat.lt_of_succ_lt hlx8)); (try (have hle8 := Nat.le_of_lt hly8))
  go_wp2_with fail
  refine (toIntS_any xI cI I _ hmI (hI.out.below (by exact (by repeat (first | exact Below.refl _ _ | assumption | refine Below.drew ?_ | refine below_drewN ?_ _ | refine Below.alloc' ?_ _ | (refine Below.setCell ?_ (by first | omega | (simp; done) | (simp; omega) | exact Below.size (by assumption) | exact Nat.le_trans (Below.size (by assumption)) (by simp)) _) | (refine Below.via' ?_ (by assumption)) | (refine Below.alloc ?_ (by first | omega | (simp; done) | (simp; omega) | exact Below.size (by assumption) | exact Nat.le_trans (Below.size (by assumption)) (by simp)) _) | (refine Below.via ?_ (by assumption) (by first | omega | (simp; done) | (simp; omega) | exact Below.size (by assumption) | exact Nat.le_trans (Below.size (by assumption)) (by simp)))))))).mono ?_
  rintro e w9 ⟨rfl, ho9, hb9⟩
  have hi9 : Hid (IIn w9 (some ⟨w8.heap.size, 0, none⟩) I) := ⟨hmI, hnI.out, Rd.of_own ho9⟩
  have hz9 := hb9.size; (try simp at hz9); (try (have hly9 := Nat.lt_of_succ_le hz9)); (try (have hlx9 := Nat.lt_of_succ_lt hly9)); (try (have hlw9 := Nat.lt_of_succ_lt hlx9)); (try (have hle9 := Nat.le_of_lt hly9))
  go_wp2_with fail
  refine (iEO_m _ _ _ _ _ _ S T8 I _ (hi7.out.below (by exact (by repeat (first | exact Below.refl _ _ | assumption | refine Below.drew ?_ | refine below_drewN ?_ _ | refine Below.alloc' ?_ _ | (refine Below.setCell ?_ (by first | omega | (simp; done) | (simp; omega) | exact Below.size (by assumption) | exact Nat.le_trans (Below.size (by assumption)) (by simp)) _) | (refine Below.via' ?_ (by assumption)) | (refine Below.alloc ?_ (by first | omega | (simp; done) | (simp; omega) | exact Below.size (by assumption) | exact Nat.le_trans (Below.size (by assumption)) (by simp)) _) | (refine Below.via ?_ (by assumption) (by first | omega | (simp; done) | (simp; omega) | exact Below.size (by assumption) | exact Nat.le_trans (Below.size (by assumption)) (by simp))))))) (hi8.out.below (by exact (by repeat (first | exact Below.refl _ _ | assumption | refine Below.drew ?_ | refine below_drewN ?_ _ | refine Below.alloc' ?_ _ | (refine Below.setCell ?_ (by first | omega | (simp; done) | (simp; omega) | exact Below.size (by assumption) | exact Nat.le_trans (Below.size (by assumption)) (by simp)) _) | (refine Below.via' ?_ (by assumption)) | (refine Below.alloc ?_ (by first | omega | (simp; done) | (simp; omega) | exact Below.size (by assumption) | exact Nat.le_trans (Below.size (by assumption)) (by simp)) _) | (refine Below.via ?_ (by assumption) (by first | omega | (simp; done) | (simp; omega) | exact Below.size (by assumption) | exact Nat.le_trans (Below.size (by assumption)) (by simp))))))) (hi9.out.below (by exact (by repeat (first | exact Below.refl _ _ | assumption | refine Below.drew ?_ | refine below_drewN ?_ _ | refine Below.alloc' ?_ _ | (refine Below.setCell ?_ (by first | omega | (simp; done) | (simp; omega) | exact Below.size (by assumption) | exact Nat.le_trans (Below.size (by assumption)) (by simp)) _) | (refine Below.via' ?_ (by assumption)) | (refine Below.alloc ?_ (by first | omega | (simp; done) | (simp; omega) | exact Below.size (by assumption) | exact Nat.le_trans (Below.size (by assumption)) (by simp)) _) | (refine Below.via ?_ (by assumption) (by first | omega | (simp; done) | (simp; omega) | exact Below.size (by assumption) | exact Nat.le_trans (Below.size (by assumption)) (by simp))))))) (eM Q) (show eM T8 = eM Q from hpm8)).mono ?_
  rintro e w10 ⟨u10, T10, rfl, hM10, ho10, hb10⟩
  rw [← hLL.out] at hM10
  have tt10 : tot T10 ≤ 1048576 := by rw [tot_eML, hM10]; exact hLt
  have tl10 : T10.length ≤ 1048576 := by rw [← eM_len, hM10]; exact hLl
  have hM10 := Lib.hid hM10
  have hRr := Lib.hid ho10.owE
  have hz10 := hb10.size; (try simp at hz10); (try (have hly10 := Nat.lt_of_succ_le hz10)); (try (have hlx10 := Nat.lt_of_succ_lt hly10)); (try (have hlw10 := Nat.lt_of_succ_lt hlx10)); (try (have hle10 := Nat.le_of_lt hly10))
  obtain ⟨xW, nW, rfl, -, -⟩ := hWr.out.form
  obtain ⟨xR, nR, rfl, -, -⟩ := hRr.out.form
  have hW10 := Lib.hid (hWr.out.below (show Below w6.heap.size w6 w10 from (by repeat (first | exact Below.refl _ _ | assumption | refine Below.drew ?_ | refine below_drewN ?_ _ | refine Below.alloc' ?_ _ | (refine Below.setCell ?_ (by first | omega | (simp; done) | (simp; omega) | exact Below.size (by assumption) | exact Nat.le_trans (Below.size (by assumption)) (by simp)) _) | (refine Below.via' ?_ (by assumption)) | (refine Below.alloc ?_ (by first | omega | (simp; done) | (simp; omega) | exact Below.size (by assumption) | exact Nat.le_trans (Below.size (by assumption)) (by simp)) _) | (refine Below.via ?_ (by assumption) (by first | omega | (simp; done) | (simp; omega) | exact Below.size (by assumption) | exact Nat.le_trans (Below.size (by assumption)) (by simp)))))))
  go_wp2_with fail
  refine (eqEditS_any _ _ _ _ T10 T6 _ (by omega) (fun q hq => by have := tot_mem hq; omega) (hM6.out.trans hM10.out.symm) hRr.out.1.rd (fun q hq => (hRr.out.2.1.1 q hq).rd) hW10.out.1.rd (fun q hq => (hW10.out.2.1.1 q hq).rd)).mono ?_
  rintro e w11 ⟨rfl, hb11⟩
  go_wp2_with fail
  refine (toVariableS_any _ _ S _ hm (hS.out.below (by exact (by repeat (first | exact Below.refl _ _ | assumption | refine Below.drew ?_ | refine below_drewN ?_ _ | refine Below.alloc' ?_ _ | (refine Below.setCell ?_ (by first | omega | (simp; done) | (simp; omega) | exact Below.size (by assumption) | exact Nat.le_trans (Below.size (by assumption)) (by simp)) _) | (refine Below.via' ?_ (by assumption)) | (refine Below.alloc ?_ (by first | omega | (simp; done) | (simp; omega) | exact Below.size (by assumption) | exact Nat.le_trans (Below.size (by assumption)) (by simp)) _) | (refine Below.via ?_ (by assumption) (by first | omega | (simp; done) | (simp; omega) | exact Below.size (by assumption) | exact Nat.le_trans (Below.size (by assumption)) (by simp)))))))).mono ?_
  rintro e w12 ⟨rfl, ho12, hb12⟩
  have hi12 : Hid (SIn w12 (some ⟨w11.heap.size, 0, none⟩) S.length S) := ⟨hm, Nat.le_refl _, hn.out, Rd.of_own ho12⟩
  have hz12 := hb12.size; (try simp at hz12); (try (have hly12 := Nat.lt_of_succ_le hz12)); (try (have hlx12 := Nat.lt_of_succ_lt hly12)); (try (have hlw12 := Nat.lt_of_succ_lt hlx12)); (try (have hle12 := Nat.le_of_lt hly12))
  go_wp2_with fail
  refine (eqVariableS_any _ _ _ _ S _ hlen (hi7.out.rd.below (by exact (by repeat (first | exact Below.refl _ _ | assumption | refine Below.drew ?_ | refine below_drewN ?_ _ | refine Below.alloc' ?_ _ | (refine Below.setCell ?_ (by first | omega | (simp; done) | (simp; omega) | exact Below.size (by assumption) | exact Nat.le_trans (Below.size (by assumption)) (by simp)) _) | (refine Below.via' ?_ (by assumption)) | (refine Below.alloc ?_ (by first | omega | (simp; done) | (simp; omega) | exact Below.size (by assumption) | exact Nat.le_trans (Below.size (by assumption)) (by simp)) _) | (refine Below.via ?_ (by assumption) (by first | omega | (simp; done) | (simp; omega) | exact Below.size (by assumption) | exact Nat.le_trans (Below.size (by assumption)) (by simp))))))) hi12.out.rd).mono ?_
  rintro e w13 ⟨rfl, hb13⟩
  go_wp2_with fail
  refine (toEditS_any _ _ Q _ hmQ (fun q hq => ⟨by have := tot_mem hq; omega, (hQ.out.2.1 q hq).2.2.below (by exact (by repeat (first | exact Below.refl _ _ | assumption | refine Below.drew ?_ | refine below_drewN ?_ _ | refine Below.alloc' ?_ _ | (refine Below.setCell ?_ (by first | omega | (simp; done) | (simp; omega) | exact Below.size (by assumption) | exact Nat.le_trans (Below.size (by assumption)) (by simp)) _) | (refine Below.via' ?_ (by assumption)) | (refine Below.alloc ?_ (by first | omega | (simp; done) | (simp; omega) | exact Below.size (by assumption) | exact Nat.le_trans (Below.size (by assumption)) (by simp)) _) | (refine Below.via ?_ (by assumption) (by first | omega | (simp; done) | (simp; omega) | exact Below.size (by assumption) | exact Nat.le_trans (Below.size (by assumption)) (by simp))))))⟩) (hQ.out.2.2.below (by exact (by repeat (first | exact Below.refl _ _ | assumption | refine Below.drew ?_ | refine below_drewN ?_ _ | refine Below.alloc' ?_ _ | (refine Below.setCell ?_ (by first | omega | (simp; done) | (simp; omega) | exact Below.size (by assumption) | exact Nat.le_trans (Below.size (by assumption)) (by simp)) _) | (refine Below.via' ?_ (by assumption)) | (refine Below.alloc ?_ (by first | omega | (simp; done) | (simp; omega) | exact Below.size (by assumption) | exact Nat.le_trans (Below.size (by assumption)) (by simp)) _) | (refine Below.via ?_ (by assumption) (by first | omega | (simp; done) | (simp; omega) | exact Below.size (by assumption) | exact Nat.le_trans (Below.size (by assumption)) (by simp)))))))).mono ?_
  rintro e w14 ⟨T14, rfl, hpm14, ho14, hb14⟩
  have hi14 : Hid (EIn w14 (some ⟨w13.heap.size, 0, none⟩) T14) := Lib.hid (EIn.of_owE ho14 hpm14 hQ.out hmQ htQ)
  replace hpm14 := Lib.hid hpm14
  have hz14 := hb14.size; (try simp at hz14); (try (have hly14 := Nat.lt_of_succ_le hz14)); (try (have hlx14 := Nat.lt_of_succ_lt hly14)); (try (have hlw14 := Nat.lt_of_succ_lt hlx14)); (try (have hle14 := Nat.le_of_lt hly14))
  go_wp2_with fail
  refine (eqEditS_any _ _ _ _ T8 T14 _ (hi8.out.below (by exact (by repeat (first | exact Below.refl _ _ | assumption | refine Below.drew ?_ | refine below_drewN ?_ _ | refine Below.alloc' ?_ _ | (refine Below.setCell ?_ (by first | omega | (simp; done) | (simp; omega) | exact Below.size (by assumption) | exact Nat.le_trans (Below.size (by assumption)) (by simp)) _) | (refine Below.via' ?_ (by assumption)) | (refine Below.alloc ?_ (by first | omega | (simp; done) | (simp; omega) | exact Below.size (by assumption) | exact Nat.le_trans (Below.size (by assumption)) (by simp)) _) | (refine Below.via ?_ (by assumption) (by first | omega | (simp; done) | (simp; omega) | exact Below.size (by assumption) | exact Nat.le_trans (Below.size (by assumption)) (by simp))))))).len.1 (hi8.out.below (by exact (by repeat (first | exact Below.refl _ _ | assumption | refine Below.drew ?_ | refine below_drewN ?_ _ | refine Below.alloc' ?_ _ | (refine Below.setCell ?_ (by first | omega | (simp; done) | (simp; omega) | exact Below.size (by assumption) | exact Nat.le_trans (Below.size (by assumption)) (by simp)) _) | (refine Below.via' ?_ (by assumption)) | (refine Below.alloc ?_ (by first | omega | (simp; done) | (simp; omega) | exact Below.size (by assumption) | exact Nat.le_trans (Below.size (by assumption)) (by simp)) _) | (refine Below.via ?_ (by assumption) (by first | omega | (simp; done) | (simp; omega) | exact Below.size (by assumption) | exact Nat.le_trans (Below.size (by assumption)) (by simp))))))).len.2 (hpm14.out.trans hpm8.out.symm) (hi8.out.below (by exact (by repeat (first | exact Below.refl _ _ | assumption | refine Below.drew ?_ | refine below_drewN ?_ _ | refine Below.alloc' ?_ _ | (refine Below.setCell ?_ (by first | omega | (simp; done) | (simp; omega) | exact Below.size (by assumption) | exact Nat.le_trans (Below.size (by assumption)) (by simp)) _) | (refine Below.via' ?_ (by assumption)) | (refine Below.alloc ?_ (by first | omega | (simp; done) | (simp; omega) | exact Below.size (by assumption) | exact Nat.le_trans (Below.size (by assumption)) (by simp)) _) | (refine Below.via ?_ (by assumption) (by first | omega | (simp; done) | (simp; omega) | exact Below.size (by assumption) | exact Nat.le_trans (Below.size (by assumption)) (by simp))))))).2.2 (hi8.out.below (by exact (by repeat (first | exact Below.refl _ _ | assumption | refine Below.drew ?_ | refine below_drewN ?_ _ | refine Below.alloc' ?_ _ | (refine Below.setCell ?_ (by first | omega | (simp; done) | (simp; omega) | exact Below.size (by assumption) | exact Nat.le_trans (Below.size (by assumption)) (by simp)) _) | (refine Below.via' ?_ (by assumption)) | (refine Below.alloc ?_ (by first | omega | (simp; done) | (simp; omega) | exact Below.size (by assumption) | exact Nat.le_trans (Below.size (by assumption)) (by simp)) _) | (refine Below.via ?_ (by assumption) (by first | omega | (simp; done) | (simp; omega) | exact Below.size (by assumption) | exact Nat.le_trans (Below.size (by assumption)) (by simp))))))).inn hi14.out.2.2 hi14.out.inn).mono ?_
  rintro e w15 ⟨rfl, hb15⟩
  go_wp2_with fail
  refine (toIntS_any xI cI I _ hmI (hI.out.below (by exact (by repeat (first | exact Below.refl _ _ | assumption | refine Below.drew ?_ | refine below_drewN ?_ _ | refine Below.alloc' ?_ _ | (refine Below.setCell ?_ (by first | omega | (simp; done) | (simp; omega) | exact Below.size (by assumption) | exact Nat.le_trans (Below.size (by assumption)) (by simp)) _) | (refine Below.via' ?_ (by assumption)) | (refine Below.alloc ?_ (by first | omega | (simp; done) | (simp; omega) | exact Below.size (by assumption) | exact Nat.le_trans (Below.size (by assumption)) (by simp)) _) | (refine Below.via ?_ (by assumption) (by first | omega | (simp; done) | (simp; omega) | exact Below.size (by assumption) | exact Nat.le_trans (Below.size (by assumption)) (by simp)))))))).mono ?_
  rintro e w16 ⟨rfl, ho16, hb16⟩
  have hi16 : Hid (IIn w16 (some ⟨w15.heap.size, 0, none⟩) I) := ⟨hmI, hnI.out, Rd.of_own ho16⟩
  have hz16 := hb16.size; (try simp at hz16); (try (have hly16 := Nat.lt_of_succ_le hz16)); (try (have hlx16 := Nat.lt_of_succ_lt hly16)); (try (have hlw16 := Nat.lt_of_succ_lt hlx16)); (try (have hle16 := Nat.le_of_lt hly16))
  go_wp2_with fail
  refine (eqIntS_any _ _ _ _ I _ hlI (hi9.out.2.2.below (by exact (by repeat (first | exact Below.refl _ _ | assumption | refine Below.drew ?_ | refine below_drewN ?_ _ | refine Below.alloc' ?_ _ | (refine Below.setCell ?_ (by first | omega | (simp; done) | (simp; omega) | exact Below.size (by assumption) | exact Nat.le_trans (Below.size (by assumption)) (by simp)) _) | (refine Below.via' ?_ (by assumption)) | (refine Below.alloc ?_ (by first | omega | (simp; done) | (simp; omega) | exact Below.size (by assumption) | exact Nat.le_trans (Below.size (by assumption)) (by simp)) _) | (refine Below.via ?_ (by assumption) (by first | omega | (simp; done) | (simp; omega) | exact Below.size (by assumption) | exact Nat.le_trans (Below.size (by assumption)) (by simp))))))) hi16.out.2.2).mono ?_
  rintro e w17 ⟨rfl, hb17⟩
  have cc0 : w.heap.size ≤ w6.heap.size := (show Below w.heap.size w w6 from (by repeat (first | exact Below.refl _ _ | assumption | refine Below.drew ?_ | refine below_drewN ?_ _ | refine Below.alloc' ?_ _ | (refine Below.setCell ?_ (by first | omega | (simp; done) | (simp; omega) | exact Below.size (by assumption) | exact Nat.le_trans (Below.size (by assumption)) (by simp)) _) | (refine Below.via' ?_ (by assumption)) | (refine Below.alloc ?_ (by first | omega | (simp; done) | (simp; omega) | exact Below.size (by assumption) | exact Nat.le_trans (Below.size (by assumption)) (by simp)) _) | (refine Below.via ?_ (by assumption) (by first | omega | (simp; done) | (simp; omega) | exact Below.size (by assumption) | exact Nat.le_trans (Below.size (by assumption)) (by simp)))))).size
  have cc1 : w6.heap.size ≤ w7.heap.size := (show Below w6.heap.size w6 w7 from (by repeat (first | exact Below.refl _ _ | assumption | refine Below.drew ?_ | refine below_drewN ?_ _ | refine Below.alloc' ?_ _ | (refine Below.setCell ?_ (by first | omega | (simp; done) | (simp; omega) | exact Below.size (by assumption) | exact Nat.le_trans (Below.size (by assumption)) (by simp)) _) | (refine Below.via' ?_ (by assumption)) | (refine Below.alloc ?_ (by first | omega | (simp; done) | (simp; omega) | exact Below.size (by assumption) | exact Nat.le_trans (Below.size (by assumption)) (by simp)) _) | (refine Below.via ?_ (by assumption) (by first | omega | (simp; done) | (simp; omega) | exact Below.size (by assumption) | exact Nat.le_trans (Below.size (by assumption)) (by simp)))))).size
  have cc2 : w7.heap.size ≤ w8.heap.size := (show Below w7.heap.size w7 w8 from (by repeat (first | exact Below.refl _ _ | assumption | refine Below.drew ?_ | refine below_drewN ?_ _ | refine Below.alloc' ?_ _ | (refine Below.setCell ?_ (by first | omega | (simp; done) | (simp; omega) | exact Below.size (by assumption) | exact Nat.le_trans (Below.size (by assumption)) (by simp)) _) | (refine Below.via' ?_ (by assumption)) | (refine Below.alloc ?_ (by first | omega | (simp; done) | (simp; omega) | exact Below.size (by assumption) | exact Nat.le_trans (Below.size (by assumption)) (by simp)) _) | (refine Below.via ?_ (by assumption) (by first | omega | (simp; done) | (simp; omega) | exact Below.size (by assumption) | exact Nat.le_trans (Below.size (by assumption)) (by simp)))))).size
  have cc3 : w8.heap.size ≤ w9.heap.size := (show Below w8.heap.size w8 w9 from (by repeat (first | exact Below.refl _ _ | assumption | refine Below.drew ?_ | refine below_drewN ?_ _ | refine Below.alloc' ?_ _ | (refine Below.setCell ?_ (by first | omega | (simp; done) | (simp; omega) | exact Below.size (by assumption) | exact Nat.le_trans (Below.size (by assumption)) (by simp)) _) | (refine Below.via' ?_ (by assumption)) | (refine Below.alloc ?_ (by first | omega | (simp; done) | (simp; omega) | exact Below.size (by assumption) | exact Nat.le_trans (Below.size (by assumption)) (by simp)) _) | (refine Below.via ?_ (by assumption) (by first | omega | (simp; done) | (simp; omega) | exact Below.size (by assumption) | exact Nat.le_trans (Below.size (by assumption)) (by simp)))))).size
  have cc4 : w9.heap.size ≤ w10.heap.size := (show Below w9.heap.size w9 w10 from (by repeat (first | exact Below.refl _ _ | assumption | refine Below.drew ?_ | refine below_drewN ?_ _ | refine Below.alloc' ?_ _ | (refine Below.setCell ?_ (by first | omega | (simp; done) | (simp; omega) | exact Below.size (by assumption) | exact Nat.le_trans (Below.size (by assumption)) (by simp)) _) | (refine Below.via' ?_ (by assumption)) | (refine Below.alloc ?_ (by first | omega | (simp; done) | (simp; omega) | exact Below.size (by assumption) | exact Nat.le_trans (Below.size (by assumption)) (by simp)) _) | (refine Below.via ?_ (by assumption) (by first | omega | (simp; done) | (simp; omega) | exact Below.size (by assumption) | exact Nat.le_trans (Below.size (by assumption)) (by simp)))))).size
  have cc5 : w10.heap.size ≤ w17.heap.size := (show Below w10.heap.size w10 w17 from (by repeat (first | exact Below.refl _ _ | assumption | refine Below.drew ?_ | refine below_drewN ?_ _ | refine Below.alloc' ?_ _ | (refine Below.setCell ?_ (by first | omega | (simp; done) | (simp; omega) | exact Below.size (by assumption) | exact Nat.le_trans (Below.size (by assumption)) (by simp)) _) | (refine Below.via' ?_ (by assumption)) | (refine Below.alloc ?_ (by first | omega | (simp; done) | (simp; omega) | exact Below.size (by assumption) | exact Nat.le_trans (Below.size (by assumption)) (by simp)) _) | (refine Below.via ?_ (by assumption) (by first | omega | (simp; done) | (simp; omega) | exact Below.size (by assumption) | exact Nat.le_trans (Below.size (by assumption)) (by simp)))))).size
  have XS_17 := (OwR.of ho7).below (show Below w7.heap.size w7 w17 from (by repeat (first | exact Below.refl _ _ | assumption | refine Below.drew ?_ | refine below_drewN ?_ _ | refine Below.alloc' ?_ _ | (refine Below.setCell ?_ (by first | omega | (simp; done) | (simp; omega) | exact Below.size (by assumption) | exact Nat.le_trans (Below.size (by assumption)) (by simp)) _) | (refine Below.via' ?_ (by assumption)) | (refine Below.alloc ?_ (by first | omega | (simp; done) | (simp; omega) | exact Below.size (by assumption) | exact Nat.le_trans (Below.size (by assumption)) (by simp)) _) | (refine Below.via ?_ (by assumption) (by first | omega | (simp; done) | (simp; omega) | exact Below.size (by assumption) | exact Nat.le_trans (Below.size (by assumption)) (by simp))))))
  have XQ_17 := ho8.below (show Below w8.heap.size w8 w17 from (by repeat (first | exact Below.refl _ _ | assumption | refine Below.drew ?_ | refine below_drewN ?_ _ | refine Below.alloc' ?_ _ | (refine Below.setCell ?_ (by first | omega | (simp; done) | (simp; omega) | exact Below.size (by assumption) | exact Nat.le_trans (Below.size (by assumption)) (by simp)) _) | (refine Below.via' ?_ (by assumption)) | (refine Below.alloc ?_ (by first | omega | (simp; done) | (simp; omega) | exact Below.size (by assumption) | exact Nat.le_trans (Below.size (by assumption)) (by simp)) _) | (refine Below.via ?_ (by assumption) (by first | omega | (simp; done) | (simp; omega) | exact Below.size (by assumption) | exact Nat.le_trans (Below.size (by assumption)) (by simp))))))
  have XI_17 := (OwR.of ho9).below (show Below w9.heap.size w9 w17 from (by repeat (first | exact Below.refl _ _ | assumption | refine Below.drew ?_ | refine below_drewN ?_ _ | refine Below.alloc' ?_ _ | (refine Below.setCell ?_ (by first | omega | (simp; done) | (simp; omega) | exact Below.size (by assumption) | exact Nat.le_trans (Below.size (by assumption)) (by simp)) _) | (refine Below.via' ?_ (by assumption)) | (refine Below.alloc ?_ (by first | omega | (simp; done) | (simp; omega) | exact Below.size (by assumption) | exact Nat.le_trans (Below.size (by assumption)) (by simp)) _) | (refine Below.via ?_ (by assumption) (by first | omega | (simp; done) | (simp; omega) | exact Below.size (by assumption) | exact Nat.le_trans (Below.size (by assumption)) (by simp))))))
  have R_17 := hRr.out.below (show Below w10.heap.size w10 w17 from (by repeat (first | exact Below.refl _ _ | assumption | refine Below.drew ?_ | refine below_drewN ?_ _ | refine Below.alloc' ?_ _ | (refine Below.setCell ?_ (by first | omega | (simp; done) | (simp; omega) | exact Below.size (by assumption) | exact Nat.le_trans (Below.size (by assumption)) (by simp)) _) | (refine Below.via' ?_ (by assumption)) | (refine Below.alloc ?_ (by first | omega | (simp; done) | (simp; omega) | exact Below.size (by assumption) | exact Nat.le_trans (Below.size (by assumption)) (by simp)) _) | (refine Below.via ?_ (by assumption) (by first | omega | (simp; done) | (simp; omega) | exact Below.size (by assumption) | exact Nat.le_trans (Below.size (by assumption)) (by simp))))))
  have W_17 := hW10.out.below (show Below w10.heap.size w10 w17 from (by repeat (first | exact Below.refl _ _ | assumption | refine Below.drew ?_ | refine below_drewN ?_ _ | refine Below.alloc' ?_ _ | (refine Below.setCell ?_ (by first | omega | (simp; done) | (simp; omega) | exact Below.size (by assumption) | exact Nat.le_trans (Below.size (by assumption)) (by simp)) _) | (refine Below.via' ?_ (by assumption)) | (refine Below.alloc ?_ (by first | omega | (simp; done) | (simp; omega) | exact Below.size (by assumption) | exact Nat.le_trans (Below.size (by assumption)) (by simp)) _) | (refine Below.via ?_ (by assumption) (by first | omega | (simp; done) | (simp; omega) | exact Below.size (by assumption) | exact Nat.le_trans (Below.size (by assumption)) (by simp))))))
  have B0 : Below w.heap.size w w17 := (by repeat (first | exact Below.refl _ _ | assumption | refine Below.drew ?_ | refine below_drewN ?_ _ | refine Below.alloc' ?_ _ | (refine Below.setCell ?_ (by first | omega | (simp; done) | (simp; omega) | exact Below.size (by assumption) | exact Nat.le_trans (Below.size (by assumption)) (by simp)) _) | (refine Below.via' ?_ (by assumption)) | (refine Below.alloc ?_ (by first | omega | (simp; done) | (simp; omega) | exact Below.size (by assumption) | exact Nat.le_trans (Below.size (by assumption)) (by simp)) _) | (refine Below.via ?_ (by assumption) (by first | omega | (simp; done) | (simp; omega) | exact Below.size (by assumption) | exact Nat.le_trans (Below.size (by assumption)) (by simp)))))
  go_wp2_with fail
  refine (markVariableS_any _ _ _ _ _ _ _ (by omega) (by omega) hm XS_17.1).mono ?_
  rintro e w18 ⟨rfl, -, hg18⟩
  have B18 := Below.mark B0 XS_17 hg18 (by omega)
  have of18 := Off.of_grown hg18 (fun k hk => XS_17.2 k hk)
  have XQ_18 := XQ_17.off of18 (by omega)
  have XI_18 := XI_17.keep hg18 (fun k hk => by have := XS_17.2 k hk; omega)
  have R_18 := R_17.off of18 (by omega)
  have W_18 := W_17.off of18 (by omega)
  go_wp2_with fail
  have htT19 : tot T8 ≤ 1048576 := by have := tot_eM hpm8.out; omega
  have hlT19 : T8.length ≤ 1048576 := by have := eM_length hpm8.out; omega
  refine (markEditS_any _ _ _ _ _ T8 _ (by omega) (by omega) hlT19 htT19 XQ_18).mono ?_
  rintro e w19 ⟨rfl, -, hg19⟩
  have B19 := Below.off B18 hg19 (by omega)
  have XI_19 := XI_18.off hg19 (by omega)
  have R_19 := R_18.off hg19 (by omega)
  have W_19 := W_18.off hg19 (by omega)
  go_wp2_with fail
  refine (markIntS_any _ _ _ _ _ _ _ (by omega) (by omega) hmI XI_19.1).mono ?_
  rintro e w20 ⟨rfl, -, hg20⟩
  have B20 := Below.mark B19 XI_19 hg20 (by omega)
  have of20 := Off.of_grown hg20 (fun k hk => XI_19.2 k hk)
  have R_20 := R_19.off of20 (by omega)
  have W_20 := W_19.off of20 (by omega)
  have hkk : ¬ (1 + 2 * (S.length : Int) + (tot T8 : Int) + (I.length : Int) < 0) := by omega
  go_wp2_with fail
  refine (eqEditS_any _ _ _ _ T10 T6 _ (by omega) (fun q hq => by have := tot_mem hq; omega) (hM6.out.trans hM10.out.symm) R_20.1.rd (fun q hq => (R_20.2.1.1 q hq).rd) W_20.1.rd (fun q hq => (W_20.2.1.1 q hq).rd)).mono ?_
  rintro e w21 ⟨rfl, hb21⟩
  have R_21 := R_20.below (show Below w20.heap.size w20 w21 from (by repeat (first | exact Below.refl _ _ | assumption | refine Below.drew ?_ | refine below_drewN ?_ _ | refine Below.alloc' ?_ _ | (refine Below.setCell ?_ (by first | omega | (simp; done) | (simp; omega) | exact Below.size (by assumption) | exact Nat.le_trans (Below.size (by assumption)) (by simp)) _) | (refine Below.via' ?_ (by assumption)) | (refine Below.alloc ?_ (by first | omega | (simp; done) | (simp; omega) | exact Below.size (by assumption) | exact Nat.le_trans (Below.size (by assumption)) (by simp)) _) | (refine Below.via ?_ (by assumption) (by first | omega | (simp; done) | (simp; omega) | exact Below.size (by assumption) | exact Nat.le_trans (Below.size (by assumption)) (by simp))))))
  have W_21 := W_20.below (show Below w20.heap.size w20 w21 from (by repeat (first | exact Below.refl _ _ | assumption | refine Below.drew ?_ | refine below_drewN ?_ _ | refine Below.alloc' ?_ _ | (refine Below.setCell ?_ (by first | omega | (simp; done) | (simp; omega) | exact Below.size (by assumption) | exact Nat.le_trans (Below.size (by assumption)) (by simp)) _) | (refine Below.via' ?_ (by assumption)) | (refine Below.alloc ?_ (by first | omega | (simp; done) | (simp; omega) | exact Below.size (by assumption) | exact Nat.le_trans (Below.size (by assumption)) (by simp)) _) | (refine Below.via ?_ (by assumption) (by first | omega | (simp; done) | (simp; omega) | exact Below.size (by assumption) | exact Nat.le_trans (Below.size (by assumption)) (by simp))))))
  have B21 : Below w.heap.size w w21 := Below.via' B20 hb21
  go_wp2_with fail
  refine (markEditS_any _ _ _ _ _ T10 _ (by omega) (by omega) tl10 tt10 R_21).mono ?_
  rintro e w22 ⟨rfl, hmk22, hg22⟩
  have B22 := Below.off B21 hg22 (by omega)
  have W_22 := W_21.off hg22 (by omega)
  have kq22 := hg22.size
  have hkq : ¬ (1 + (tot T10 : Int) < 0) := by omega
  have hk22 := Lib.hid hmk22
  have W22 := Lib.hid W_22
  clear hmk22 W_22
  go_wp2_with fail
  refine (heldEditS_any _ _ _ T10 _ (by omega) (by omega) tl10 tt10 (by have h0 := hk22.out.1; rw [mE_len] at h0; exact h0.rd) (fun q hq => (hk22.out.2.1.1 q hq).rd)).mono ?_
  rintro e w23 ⟨rfl, hb23⟩
  have B23 : Below w.heap.size w w23 := Below.via' B22 hb23
  have W23 := Lib.hid (W22.out.below hb23)
  have hk23 := Lib.hid (hk22.out.below hb23)
  go_wp2_with fail
  refine (toVariableS_any _ _ S _ hm (hS.out.below (by exact (by repeat (first | exact Below.refl _ _ | assumption | refine Below.drew ?_ | refine below_drewN ?_ _ | refine Below.alloc' ?_ _ | (refine Below.setCell ?_ (by first | omega | (simp; done) | (simp; omega) | exact Below.size (by assumption) | exact Nat.le_trans (Below.size (by assumption)) (by simp)) _) | (refine Below.via' ?_ (by assumption)) | (refine Below.alloc ?_ (by first | omega | (simp; done) | (simp; omega) | exact Below.size (by assumption) | exact Nat.le_trans (Below.size (by assumption)) (by simp)) _) | (refine Below.via ?_ (by assumption) (by first | omega | (simp; done) | (simp; omega) | exact Below.size (by assumption) | exact Nat.le_trans (Below.size (by assumption)) (by simp)))))))).mono ?_
  rintro e w24 ⟨rfl, ho24, hb24⟩
  have hi24 : Hid (SIn w24 (some ⟨w23.heap.size, 0, none⟩) S.length S) := ⟨hm, Nat.le_refl _, hn.out, Rd.of_own ho24⟩
  have hz24 := hb24.size; (try simp at hz24); (try (have hly24 := Nat.lt_of_succ_le hz24)); (try (have hlx24 := Nat.lt_of_succ_lt hly24)); (try (have hlw24 := Nat.lt_of_succ_lt hlx24)); (try (have hle24 := Nat.le_of_lt hly24))
  go_wp2_with fail
  refine (toEditS_any _ _ Q _ hmQ (fun q hq => ⟨by have := tot_mem hq; omega, (hQ.out.2.1 q hq).2.2.below (by exact (by repeat (first | exact Below.refl _ _ | assumption | refine Below.drew ?_ | refine below_drewN ?_ _ | refine Below.alloc' ?_ _ | (refine Below.setCell ?_ (by first | omega | (simp; done) | (simp; omega) | exact Below.size (by assumption) | exact Nat.le_trans (Below.size (by assumption)) (by simp)) _) | (refine Below.via' ?_ (by assumption)) | (refine Below.alloc ?_ (by first | omega | (simp; done) | (simp; omega) | exact Below.size (by assumption) | exact Nat.le_trans (Below.size (by assumption)) (by simp)) _) | (refine Below.via ?_ (by assumption) (by first | omega | (simp; done) | (simp; omega) | exact Below.size (by assumption) | exact Nat.le_trans (Below.size (by assumption)) (by simp))))))⟩) (hQ.out.2.2.below (by exact (by repeat (first | exact Below.refl _ _ | assumption | refine Below.drew ?_ | refine below_drewN ?_ _ | refine Below.alloc' ?_ _ | (refine Below.setCell ?_ (by first | omega | (simp; done) | (simp; omega) | exact Below.size (by assumption) | exact Nat.le_trans (Below.size (by assumption)) (by simp)) _) | (refine Below.via' ?_ (by assumption)) | (refine Below.alloc ?_ (by first | omega | (simp; done) | (simp; omega) | exact Below.size (by assumption) | exact Nat.le_trans (Below.size (by assumption)) (by simp)) _) | (refine Below.via ?_ (by assumption) (by first | omega | (simp; done) | (simp; omega) | exact Below.size (by assumption) | exact Nat.le_trans (Below.size (by assumption)) (by simp)))))))).mono ?_
  rintro e w25 ⟨T25, rfl, hpm25, ho25, hb25⟩
  have hi25 : Hid (EIn w25 (some ⟨w24.heap.size, 0, none⟩) T25) := Lib.hid (EIn.of_owE ho25 hpm25 hQ.out hmQ htQ)
  replace hpm25 := Lib.hid hpm25
  have hz25 := hb25.size; (try simp at hz25); (try (have hly25 := Nat.lt_of_succ_le hz25)); (try (have hlx25 := Nat.lt_of_succ_lt hly25)); (try (have hlw25 := Nat.lt_of_succ_lt hlx25)); (try (have hle25 := Nat.le_of_lt hly25))
  go_wp2_with fail
  refine (toIntS_any xI cI I _ hmI (hI.out.below (by exact (by repeat (first | exact Below.refl _ _ | assumption | refine Below.drew ?_ | refine below_drewN ?_ _ | refine Below.alloc' ?_ _ | (refine Below.setCell ?_ (by first | omega | (simp; done) | (simp; omega) | exact Below.size (by assumption) | exact Nat.le_trans (Below.size (by assumption)) (by simp)) _) | (refine Below.via' ?_ (by assumption)) | (refine Below.alloc ?_ (by first | omega | (simp; done) | (simp; omega) | exact Below.size (by assumption) | exact Nat.le_trans (Below.size (by assumption)) (by simp)) _) | (refine Below.via ?_ (by assumption) (by first | omega | (simp; done) | (simp; omega) | exact Below.size (by assumption) | exact Nat.le_trans (Below.size (by assumption)) (by simp)))))))).mono ?_
  rintro e w26 ⟨rfl, ho26, hb26⟩
  have hi26 : Hid (IIn w26 (some ⟨w25.heap.size, 0, none⟩) I) := ⟨hmI, hnI.out, Rd.of_own ho26⟩
  have hz26 := hb26.size; (try simp at hz26); (try (have hly26 := Nat.lt_of_succ_le hz26)); (try (have hlx26 := Nat.lt_of_succ_lt hly26)); (try (have hlw26 := Nat.lt_of_succ_lt hlx26)); (try (have hle26 := Nat.le_of_lt hly26))
  go_wp2_with fail
  refine (iEO_m _ _ _ _ _ _ S T25 I _ (hi24.out.below (by exact (by repeat (first | exact Below.refl _ _ | assumption | refine Below.drew ?_ | refine below_drewN ?_ _ | refine Below.alloc' ?_ _ | (refine Below.setCell ?_ (by first | omega | (simp; done) | (simp; omega) | exact Below.size (by assumption) | exact Nat.le_trans (Below.size (by assumption)) (by simp)) _) | (refine Below.via' ?_ (by assumption)) | (refine Below.alloc ?_ (by first | omega | (simp; done) | (simp; omega) | exact Below.size (by assumption) | exact Nat.le_trans (Below.size (by assumption)) (by simp)) _) | (refine Below.via ?_ (by assumption) (by first | omega | (simp; done) | (simp; omega) | exact Below.size (by assumption) | exact Nat.le_trans (Below.size (by assumption)) (by simp))))))) (hi25.out.below (by exact (by repeat (first | exact Below.refl _ _ | assumption | refine Below.drew ?_ | refine below_drewN ?_ _ | refine Below.alloc' ?_ _ | (refine Below.setCell ?_ (by first | omega | (simp; done) | (simp; omega) | exact Below.size (by assumption) | exact Nat.le_trans (Below.size (by assumption)) (by simp)) _) | (refine Below.via' ?_ (by assumption)) | (refine Below.alloc ?_ (by first | omega | (simp; done) | (simp; omega) | exact Below.size (by assumption) | exact Nat.le_trans (Below.size (by assumption)) (by simp)) _) | (refine Below.via ?_ (by assumption) (by first | omega | (simp; done) | (simp; omega) | exact Below.size (by assumption) | exact Nat.le_trans (Below.size (by assumption)) (by simp))))))) (hi26.out.below (by exact (by repeat (first | exact Below.refl _ _ | assumption | refine Below.drew ?_ | refine below_drewN ?_ _ | refine Below.alloc' ?_ _ | (refine Below.setCell ?_ (by first | omega | (simp; done) | (simp; omega) | exact Below.size (by assumption) | exact Nat.le_trans (Below.size (by assumption)) (by simp)) _) | (refine Below.via' ?_ (by assumption)) | (refine Below.alloc ?_ (by first | omega | (simp; done) | (simp; omega) | exact Below.size (by assumption) | exact Nat.le_trans (Below.size (by assumption)) (by simp)) _) | (refine Below.via ?_ (by assumption) (by first | omega | (simp; done) | (simp; omega) | exact Below.size (by assumption) | exact Nat.le_trans (Below.size (by assumption)) (by simp))))))) (eM Q) (show eM T25 = eM Q from hpm25)).mono ?_
  rintro e w27 ⟨u27, T27, rfl, hM27, ho27, hb27⟩
  have hz27 := hb27.size; (try simp at hz27); (try (have hly27 := Nat.lt_of_succ_le hz27)); (try (have hlx27 := Nat.lt_of_succ_lt hly27)); (try (have hlw27 := Nat.lt_of_succ_lt hlx27)); (try (have hle27 := Nat.le_of_lt hly27))
  rw [← hLL.out] at hM27
  have tt27 : tot T27 ≤ 1048576 := by rw [tot_eML, hM27]; exact hLt
  have tl27 : T27.length ≤ 1048576 := by rw [← eM_len, hM27]; exact hLl
  have hM27 := Lib.hid hM27
  have H := Lib.hid ho27.owE
  obtain ⟨xH, nH, rfl, -, -⟩ := H.out.form
  have W27 := Lib.hid (W23.out.below (show Below w23.heap.size w23 w27 from (by repeat (first | exact Below.refl _ _ | assumption | refine Below.drew ?_ | refine below_drewN ?_ _ | refine Below.alloc' ?_ _ | (refine Below.setCell ?_ (by first | omega | (simp; done) | (simp; omega) | exact Below.size (by assumption) | exact Nat.le_trans (Below.size (by assumption)) (by simp)) _) | (refine Below.via' ?_ (by assumption)) | (refine Below.alloc ?_ (by first | omega | (simp; done) | (simp; omega) | exact Below.size (by assumption) | exact Nat.le_trans (Below.size (by assumption)) (by simp)) _) | (refine Below.via ?_ (by assumption) (by first | omega | (simp; done) | (simp; omega) | exact Below.size (by assumption) | exact Nat.le_trans (Below.size (by assumption)) (by simp)))))))
  have hk27 := Lib.hid (hk23.out.below (show Below w23.heap.size w23 w27 from (by repeat (first | exact Below.refl _ _ | assumption | refine Below.drew ?_ | refine below_drewN ?_ _ | refine Below.alloc' ?_ _ | (refine Below.setCell ?_ (by first | omega | (simp; done) | (simp; omega) | exact Below.size (by assumption) | exact Nat.le_trans (Below.size (by assumption)) (by simp)) _) | (refine Below.via' ?_ (by assumption)) | (refine Below.alloc ?_ (by first | omega | (simp; done) | (simp; omega) | exact Below.size (by assumption) | exact Nat.le_trans (Below.size (by assumption)) (by simp)) _) | (refine Below.via ?_ (by assumption) (by first | omega | (simp; done) | (simp; omega) | exact Below.size (by assumption) | exact Nat.le_trans (Below.size (by assumption)) (by simp)))))))
  go_wp2_with fail
  refine (eqEditS_any _ _ _ _ T27 T6 _ (by omega) (fun q hq => by have := tot_mem hq; omega) (hM6.out.trans hM27.out.symm) H.out.1.rd (fun q hq => (H.out.2.1.1 q hq).rd) W27.out.1.rd (fun q hq => (W27.out.2.1.1 q hq).rd)).mono ?_
  rintro e w28 ⟨rfl, hb28⟩
  have hk28 := Lib.hid (hk27.out.below hb28)
  go_wp2_with fail
  refine (heldEditS_any _ _ _ T10 _ (by omega) (by omega) tl10 tt10 (by have h0 := hk28.out.1; rw [mE_len] at h0; exact h0.rd) (fun q hq => (hk28.out.2.1.1 q hq).rd)).mono ?_
  rintro e w29 ⟨rfl, hb29⟩
  go_wp2
  go_ret
  exact ⟨rfl, (by repeat (first | exact Below.refl _ _ | assumption | refine Below.drew ?_ | refine below_drewN ?_ _ | refine Below.alloc' ?_ _ | (refine Below.setCell ?_ (by first | omega | (simp; done) | (simp; omega) | exact Below.size (by assumption) | exact Nat.le_trans (Below.size (by assumption)) (by simp)) _) | (refine Below.via' ?_ (by assumption)) | (refine Below.alloc ?_ (by first | omega | (simp; done) | (simp; omega) | exact Below.size (by assumption) | exact Nat.le_trans (Below.size (by assumption)) (by simp)) _) | (refine Below.via ?_ (by assumption) (by first | omega | (simp; done) | (simp; omega) | exact Below.size (by assumption) | exact Nat.le_trans (Below.size (by assumption)) (by simp)))))⟩

end Go.Proofs.Ytmcibcechffppaa
