import Derived.Test.YtmcibcechffppaaEdS
import Derived.Test.YtmcibcechffppaaPnV
namespace Go.Proofs.Ytmcibcechffppaa
open Go.RowKit
set_option maxRecDepth 100000

/-- The edits that are marked from k on. -/
def mE (k : Int) : List PR → List PR
  | [] => []
  | q :: r => ⟨q.a, q.h, q.x, q.c, mkL k q.L.length⟩ :: mE (k + q.L.length) r
theorem mE_len : ∀ (k : Int) (Q : List PR), (mE k Q).length = Q.length
  | _, [] => rfl
  | k, q :: r => by simp [mE, mE_len _ r]
theorem mE_app : ∀ (k : Int) (Q T : List PR), mE k (Q ++ T) = mE k Q ++ mE (k + tot Q) T
  | k, [], T => by simp [mE, tot]
  | k, q :: r, T => by
    simp only [List.cons_append, mE, mE_app _ r T]
    congr 3
    unfold tot
    simp only [List.map_cons, List.sum_cons]
    omega
theorem mE_step (k : Int) {Q : List PR} {i : Nat} {q : PR} (h : Q[i]? = some q) (hi : i < Q.length) :
    mE k (Q.take (i + 1)) ++ Q.drop (i + 1) = (mE k (Q.take i) ++ Q.drop i).set i ⟨q.a, q.h, q.x, q.c, mkL (k + tot (Q.take i)) q.L.length⟩ := by
  have hl : (mE k (Q.take i)).length = i := by rw [mE_len, List.length_take]; omega
  have hd : Q.drop i = q :: Q.drop (i + 1) := by
    rw [List.drop_eq_getElem_cons hi]
    rw [List.getElem?_eq_getElem hi] at h
    injection h with h
    rw [h]
  rw [List.set_append_right _ _ (by omega), hl, Nat.sub_self, hd, List.set_cons_zero, take_snoc h, mE_app, List.append_assoc]
  rfl
theorem mE_at (k : Int) {Q : List PR} {i : Nat} {q : PR} (h : Q[i]? = some q) (hi : i < Q.length) :
    (mE k Q)[i]? = some ⟨q.a, q.h, q.x, q.c, mkL (k + tot (Q.take i)) q.L.length⟩ := by
  have hl : (mE k (Q.take i)).length = i := by rw [mE_len, List.length_take]; omega
  have e : mE k Q = mE k (Q.take (i + 1)) ++ mE (k + tot (Q.take (i + 1))) (Q.drop (i + 1)) := by rw [← mE_app, List.take_append_drop]
  rw [e, List.getElem?_append_left (by rw [mE_len, List.length_take]; omega), take_snoc h, mE_app, List.getElem?_append_right (by omega), hl, Nat.sub_self]
  rfl
theorem eC_setL : ∀ (Q : List PR) (i : Nat) (q : PR) (M : List Int), Q[i]? = some q → M.length = q.L.length → eC (Q.set i ⟨q.a, q.h, q.x, q.c, M⟩) = eC Q
  | [], i, q, M, h, _ => by simp at h
  | p :: r, 0, q, M, h, hl => by simp at h; subst h; simp [eC, PR.v, hl]
  | p :: r, i + 1, q, M, h, hl => by
    simp only [List.getElem?_cons_succ] at h
    have := eC_setL r i q M h hl
    unfold eC at this ⊢
    simp only [List.set_cons_succ, List.map_cons, this]
section
variable {w w1 : World} {lo hi : Nat} {te ti : TypeId} {Q : List PR} {i g c : Nat} {q : PR}
/-- The row of edit i is written. -/
theorem OwE.turn {M : List Int} (h : OwE w lo hi te ti (.slice (some ⟨g, 0, none⟩) Q.length c) Q) (hq : Q[i]? = some q) (hl : M.length = q.L.length) (hr : w1.ownsRow lo ti 1 q.v q.L.length (iC M)) (hg : w.grownBy w1 q.v.ownBlock) :
    OwE w1 lo hi te ti (.slice (some ⟨g, 0, none⟩) (Q.set i ⟨q.a, q.h, q.x, q.c, M⟩).length c) (Q.set i ⟨q.a, q.h, q.x, q.c, M⟩) := by
  obtain ⟨h1, h2, h3⟩ := h
  have hmem := List.mem_of_getElem? hq
  have hpv : (PR.mk q.a q.h q.x q.c M).v = q.v := by unfold PR.v; rw [hl]
  refine ⟨⟨?_, fun k hk => h1.2 k hk⟩, ⟨fun r hr2 => ?_, ?_⟩, fun r hr2 k hk => ?_⟩
  · rw [List.length_set, eC_setL Q i q M hq hl]
    refine h1.1.kept hg (Or.inr fun e => h3 q hmem g rfl ?_)
    rw [← e]; rfl
  · rcases mem_set_cases hr2 with rfl | ⟨j, hji, hj⟩
    · rw [hpv]; exact ⟨by rw [hl]; exact hr, (h2.1 q hmem).2⟩
    · have hrm := List.mem_of_getElem? hj
      refine ⟨(h2.1 r hrm).1.kept hg ?_, (h2.1 r hrm).2⟩
      cases hb : r.v.ownBlock with
      | none => exact Or.inl rfl
      | some k => exact Or.inr fun e => blk_ne h2.2 hq hj hji e.symm hb
  · rw [blk_set hq (by rw [hpv])]; exact h2.2
  · rcases mem_set_cases hr2 with rfl | ⟨j, _, hj⟩
    · rw [hpv]; exact h3 q hmem k hk
    · exact h3 r (List.mem_of_getElem? hj) k hk
end
set_option maxHeartbeats 4000000 in
theorem markEditS_any (x : Option Addr) (cap : Nat) (k : Int) (lo hi : Nat) (Q : List PR) (w : World) (hk : 0 ≤ k) (hk2 : k ≤ 1000000000) (hn : Q.length ≤ 1048576) (ht : tot Q ≤ 1048576) (hown : OwE w lo hi 62 3 (.slice x Q.length cap) Q) :
    Calls Try.prog 19 #[.slice x Q.length cap, .int .i64 k] w fun e w' => e = .returned (.int .i64 (k + tot Q)) ∧ OwE w' lo hi 62 3 (.slice x Q.length cap) (mE k Q) ∧ Off lo hi w w' := by
  by_cases h0 : Q.length = 0
  · obtain rfl : Q = [] := List.eq_nil_of_length_eq_zero h0
    have hown := Lib.hid hown
    go_enter Try.func19, Try.ntmps19
    go_wp2
    refine wp_loop_rounds 1 ?_
    rw [rounds_succ]
    go_wp2
    go_ret
    exact ⟨ret_int (by simp [tot]), hown.out, Off.refl _ _ _⟩
  obtain ⟨g, cap', he⟩ := own_some hown.1.1 (by omega)
  injection he with hx _ hc
  subst hx hc
  have hown0 := Lib.hid hown
  clear hown
  go_enter Try.func19, Try.ntmps19
  go_wp2
  go_loopw [1, 5] (fun q c wr => ∃ i : Nat, i ≤ Q.length ∧ c = .int .i64 i ∧ q = .int .i64 (k + tot (Q.take i)) ∧ Hid (OwE wr lo hi 62 3 (.slice (some ⟨g, 0, none⟩) (mE k (Q.take i) ++ Q.drop i).length cap) (mE k (Q.take i) ++ Q.drop i)) ∧ Off lo hi w wr) (fun _ c _ => Q.length - (intOf c).toNat)
  case atStart => exact ⟨0, by omega, rfl, (by rw [tot0]; go_num), (by unfold Hid; simpa [mE] using hown0.out), Off.refl _ _ _⟩
  case round =>
    clear hown0
    obtain ⟨i, hil, rfl, rfl, hown, hb⟩ := hrel
    have hzl : (mE k (Q.take i) ++ Q.drop i).length = Q.length := by rw [List.length_append, mE_len, List.length_take, List.length_drop]; omega
    by_cases hlt : i < Q.length
    · obtain ⟨q, hq⟩ : ∃ q, Q[i]? = some q := ⟨Q[i], List.getElem?_eq_getElem hlt⟩
      have hZ : (mE k (Q.take i) ++ Q.drop i)[i]? = some q := by
        rw [List.getElem?_append_right (by rw [mE_len, List.length_take]; omega), mE_len, List.length_take, Nat.min_eq_left (by omega), Nat.sub_self, List.getElem?_drop, Nat.add_zero, hq]
      have hstep := Lib.hid (mE_step k hq hlt)
      have htt := tot_take hq
      have htl : tot (Q.take (i + 1)) ≤ tot Q := by
        conv => rhs; rw [← List.take_append_drop (i + 1) Q]
        unfold tot
        rw [List.map_append, List.sum_append]
        omega
      generalize hZe : mE k (Q.take i) ++ Q.drop i = Z at hown hZ hzl hstep
      have hti : tot (Q.take i) ≤ 1048576 := by omega
      generalize htie : tot (Q.take i) = t at *
      have hql : q.L.length ≤ 1048576 := by omega
      have ho0 := hown.out.1.1
      rw [hzl] at ho0
      obtain ⟨u0, hu0, k0⟩ := own_cell ho0 (j := i) (by omega)
      have e2 : u0 = .slice q.x q.L.length q.c := Option.some.inj (hu0.symm.trans (eC_at hZ))
      subst e2
      have k4 := (own_lt ho0).2
      have hin := Lib.hid (hown.out.1.2 g rfl)
      clear hu0 ho0
      replace hZ := Lib.hid hZ
      replace hq := Lib.hid hq
      have hlt' : (i : Int) < (Q.length : Int) := by omega
      go_wp2_with fail
      refine (markIntS_any _ _ _ _ lo _ _ (by omega) (by omega) hql (hown.out.2.1.1 _ (List.mem_of_getElem? hZ.out)).1).mono ?_
      rintro e w2 ⟨rfl, hm2, hg2⟩
      have P2 := Lib.hid (hown.out.turn hZ.out (by rw [mkL_len]) hm2 hg2)
      have hbl := Lib.hid ((hown.out.2.1.1 _ (List.mem_of_getElem? hZ.out)).2)
      go_wp2
      go_roundw
      case rel =>
        refine ⟨i + 1, by omega, by go_num, ?_, ?_, ?_⟩
        · rw [htt]
          congr 1
          push_cast
          omega
        · rw [hstep.out]
          exact P2.out
        · exact hb.trans (Off.of_grown hg2 (fun k hk => hbl.out k hk))
      case measure => simp [intOf]; omega
    · have hij : i = Q.length := by omega
      subst hij
      have hown := Lib.hid (show OwE wr lo hi 62 3 (.slice (some ⟨g, 0, none⟩) Q.length cap) (mE k Q) from by simpa [mE_len] using hown.out)
      rw [List.take_length]
      clear hzl
      go_wp2
      go_ret
      exact ⟨rfl, hown.out, hb⟩

set_option maxHeartbeats 4000000 in
theorem heldEditS_any (x : Option Addr) (cap : Nat) (k : Int) (Q : List PR) (w : World) (hk : 0 ≤ k) (hk2 : k ≤ 1000000000) (hn : Q.length ≤ 1048576) (ht : tot Q ≤ 1048576) (hx : Rd w x (eC (mE k Q))) (hxi : ∀ q ∈ mE k Q, Rd w q.x (iC q.L)) :
    Calls Try.prog 20 #[.slice x Q.length cap, .int .i64 k] w fun e w' => e = .returned (.int .i64 (k + tot Q)) ∧ Below w.heap.size w w' := by
  have hxh := Lib.hid hx
  have hih := Lib.hid hxi
  clear hx hxi
  go_enter Try.func20, Try.ntmps20
  go_wp2
  go_loopw [1, 5] (fun q c wr => ∃ i : Nat, i ≤ Q.length ∧ c = .int .i64 i ∧ q = .int .i64 (k + tot (Q.take i)) ∧ Below w.heap.size w wr) (fun _ c _ => Q.length - (intOf c).toNat)
  case atStart => exact ⟨0, by omega, rfl, (by rw [tot0]; go_num), Below.refl _ _⟩
  case round =>
    obtain ⟨i, hi, rfl, rfl, hb⟩ := hrel
    by_cases hlt : i < Q.length
    · obtain ⟨q, hq⟩ : ∃ q, Q[i]? = some q := ⟨Q[i], List.getElem?_eq_getElem hlt⟩
      have htt := tot_take hq
      have htl : tot (Q.take (i + 1)) ≤ tot Q := by
        conv => rhs; rw [← List.take_append_drop (i + 1) Q]
        unfold tot
        rw [List.map_append, List.sum_append]
        omega
      have hma := mE_at k hq hlt
      generalize htie : tot (Q.take i) = t at *
      obtain ⟨bl, off, p, hbx, hbl, hSi, hc0⟩ := (hxh.out.below hb).ed (i := i) (by rw [mE_len]; exact hlt)
      have hrd := Lib.hid ((hih.out p (List.mem_of_getElem? hSi)).below hb)
      obtain rfl := Option.some.inj (hSi.symm.trans hma)
      simp only [mkL_len] at hc0 hrd
      subst hbx
      clear hSi hma
      replace hq := Lib.hid hq
      have hql : q.L.length ≤ 1048576 := by omega
      have hlt' : (i : Int) < (Q.length : Int) := by omega
      have hi0 : (0 : Int) ≤ (i : Int) := by omega
      have hkk : ¬ (k + (t : Int) + (q.L.length : Int) < 0) := by omega
      go_wp2_with fail
      refine (heldIntS_any _ _ _ _ _ (by omega) (by omega) hql (hrd.out.below (by exact (by repeat (first | exact Below.refl _ _ | assumption | refine Below.drew ?_ | refine below_drewN ?_ _ | refine Below.alloc' ?_ _ | (refine Below.setCell ?_ (by first | omega | (simp; done) | (simp; omega) | exact Below.size (by assumption) | exact Nat.le_trans (Below.size (by assumption)) (by simp)) _) | (refine Below.via' ?_ (by assumption)) | (refine Below.alloc ?_ (by first | omega | (simp; done) | (simp; omega) | exact Below.size (by assumption) | exact Nat.le_trans (Below.size (by assumption)) (by simp)) _) | (refine Below.via ?_ (by assumption) (by first | omega | (simp; done) | (simp; omega) | exact Below.size (by assumption) | exact Nat.le_trans (Below.size (by assumption)) (by simp)))))))).mono ?_
      rintro e w2 ⟨rfl, rfl⟩
      go_wp2
      go_roundw
      case rel =>
        refine ⟨i + 1, by omega, by go_num, ?_, (by repeat (first | exact Below.refl _ _ | assumption | refine Below.drew ?_ | refine below_drewN ?_ _ | refine Below.alloc' ?_ _ | (refine Below.setCell ?_ (by first | omega | (simp; done) | (simp; omega) | exact Below.size (by assumption) | exact Nat.le_trans (Below.size (by assumption)) (by simp)) _) | (refine Below.via' ?_ (by assumption)) | (refine Below.alloc ?_ (by first | omega | (simp; done) | (simp; omega) | exact Below.size (by assumption) | exact Nat.le_trans (Below.size (by assumption)) (by simp)) _) | (refine Below.via ?_ (by assumption) (by first | omega | (simp; done) | (simp; omega) | exact Below.size (by assumption) | exact Nat.le_trans (Below.size (by assumption)) (by simp)))))⟩
        rw [htt]
        congr 1
        push_cast
        omega
      case measure => simp [intOf]; omega
    · have hij : i = Q.length := by omega
      subst hij
      rw [List.take_length]
      go_wp2
      go_ret
      exact ⟨rfl, hb⟩
end Go.Proofs.Ytmcibcechffppaa

namespace Go.Proofs.Ytmcibcechffppaa
open Go.ChangeShapes Go.WideShapes Go.ChangeAt Go.RowKit
set_option maxRecDepth 100000

set_option maxHeartbeats 16000000 in
theorem fnExactPackingBound_any (xS : Option Addr) (cS : Nat) (S : List (ByteArray × Int)) (xQ : Option Addr) (cQ : Nat) (Q : List PR) (xG : Option Addr) (cG : Nat) (G : List Int) (xV : Option Addr) (cV : Nat) (V : List Int) (w : World) (hlen : S.length ≤ 9223372036854775807) (hn : Hid (∀ q ∈ S, q.1.size ≤ 9223372036854775807 ∧ IsI64 q.2)) (hS : Hid (Rd w xS (vC S))) (hQ : Hid (EIn0 w xQ Q)) (hlQ : Q.length ≤ 9223372036854775807) (hlG : G.length ≤ 9223372036854775807) (hnG : Hid (∀ n ∈ G, IsI64 n)) (hG : Hid (Rd w xG (iC G))) (hlV : V.length ≤ 9223372036854775807) (hnV : Hid (∀ n ∈ V, IsI64 n)) (hV : Hid (Rd w xV (iC V))) :
    Calls Try.prog 9 #[.slice xS S.length cS, .slice xQ Q.length cQ, .slice xG G.length cG, .slice xV V.length cV] w fun e w' => e = .returned (.bool true) ∧ Below w.heap.size w w' := by
  by_cases hbigG : (1048576 : Int) < (G.length : Int)
  · go_enter Try.func9, Try.ntmps9
    go_wp2
    go_ret
    exact ⟨rfl, (by repeat (first | exact Below.refl _ _ | assumption | refine Below.drew ?_ | refine below_drewN ?_ _ | refine Below.alloc' ?_ _ | (refine Below.setCell ?_ (by first | omega | (simp; done) | (simp; omega) | exact Below.size (by assumption) | exact Nat.le_trans (Below.size (by assumption)) (by simp)) _) | (refine Below.via' ?_ (by assumption)) | (refine Below.alloc ?_ (by first | omega | (simp; done) | (simp; omega) | exact Below.size (by assumption) | exact Nat.le_trans (Below.size (by assumption)) (by simp)) _) | (refine Below.via ?_ (by assumption) (by first | omega | (simp; done) | (simp; omega) | exact Below.size (by assumption) | exact Nat.le_trans (Below.size (by assumption)) (by simp)))))⟩
  have hmG : G.length ≤ 1048576 := by omega
  by_cases hbigV : (1048576 : Int) < (V.length : Int)
  · go_enter Try.func9, Try.ntmps9
    go_wp2
    go_ret
    exact ⟨rfl, (by repeat (first | exact Below.refl _ _ | assumption | refine Below.drew ?_ | refine below_drewN ?_ _ | refine Below.alloc' ?_ _ | (refine Below.setCell ?_ (by first | omega | (simp; done) | (simp; omega) | exact Below.size (by assumption) | exact Nat.le_trans (Below.size (by assumption)) (by simp)) _) | (refine Below.via' ?_ (by assumption)) | (refine Below.alloc ?_ (by first | omega | (simp; done) | (simp; omega) | exact Below.size (by assumption) | exact Nat.le_trans (Below.size (by assumption)) (by simp)) _) | (refine Below.via ?_ (by assumption) (by first | omega | (simp; done) | (simp; omega) | exact Below.size (by assumption) | exact Nat.le_trans (Below.size (by assumption)) (by simp)))))⟩
  have hmV : V.length ≤ 1048576 := by omega
  go_enter Try.func9, Try.ntmps9
  go_wp2_with fail
  refine (szVariableS_any _ _ S _ _ (by omega) (by omega) hlen (fun p hp => (hn.out p hp).1) (hS.out.below (by exact (by repeat (first | exact Below.refl _ _ | assumption | refine Below.drew ?_ | refine below_drewN ?_ _ | refine Below.alloc' ?_ _ | (refine Below.setCell ?_ (by first | omega | (simp; done) | (simp; omega) | exact Below.size (by assumption) | exact Nat.le_trans (Below.size (by assumption)) (by simp)) _) | (refine Below.via' ?_ (by assumption)) | (refine Below.alloc ?_ (by first | omega | (simp; done) | (simp; omega) | exact Below.size (by assumption) | exact Nat.le_trans (Below.size (by assumption)) (by simp)) _) | (refine Below.via ?_ (by assumption) (by first | omega | (simp; done) | (simp; omega) | exact Below.size (by assumption) | exact Nat.le_trans (Below.size (by assumption)) (by simp)))))))).mono ?_
  rintro e w1 ⟨r1, rfl, hra1, hrb1, hrc1, hb1⟩
  by_cases hr1 : r1 < 0
  · clear hrc1
    go_wp2
    go_ret
    exact ⟨rfl, (by repeat (first | exact Below.refl _ _ | assumption | refine Below.drew ?_ | refine below_drewN ?_ _ | refine Below.alloc' ?_ _ | (refine Below.setCell ?_ (by first | omega | (simp; done) | (simp; omega) | exact Below.size (by assumption) | exact Nat.le_trans (Below.size (by assumption)) (by simp)) _) | (refine Below.via' ?_ (by assumption)) | (refine Below.alloc ?_ (by first | omega | (simp; done) | (simp; omega) | exact Below.size (by assumption) | exact Nat.le_trans (Below.size (by assumption)) (by simp)) _) | (refine Below.via ?_ (by assumption) (by first | omega | (simp; done) | (simp; omega) | exact Below.size (by assumption) | exact Nat.le_trans (Below.size (by assumption)) (by simp)))))⟩
  obtain ⟨hm, hsz⟩ := hrc1 (by omega)
  have hm : S.length ≤ 1048576 := by omega
  clear hrc1 hsz
  go_wp2_with fail
  refine (szEditS_any _ _ Q _ _ (by omega) (by omega) hlQ (fun q hq => (hQ.out.2.1 q hq).1) (hQ.out.2.2.below (by exact (by repeat (first | exact Below.refl _ _ | assumption | refine Below.drew ?_ | refine below_drewN ?_ _ | refine Below.alloc' ?_ _ | (refine Below.setCell ?_ (by first | omega | (simp; done) | (simp; omega) | exact Below.size (by assumption) | exact Nat.le_trans (Below.size (by assumption)) (by simp)) _) | (refine Below.via' ?_ (by assumption)) | (refine Below.alloc ?_ (by first | omega | (simp; done) | (simp; omega) | exact Below.size (by assumption) | exact Nat.le_trans (Below.size (by assumption)) (by simp)) _) | (refine Below.via ?_ (by assumption) (by first | omega | (simp; done) | (simp; omega) | exact Below.size (by assumption) | exact Nat.le_trans (Below.size (by assumption)) (by simp)))))))).mono ?_
  rintro e w2 ⟨r2, rfl, hra2, hrb2, hrc2, hb2⟩
  by_cases hr2 : r2 < 0
  · clear hrc2
    go_wp2
    go_ret
    exact ⟨rfl, (by repeat (first | exact Below.refl _ _ | assumption | refine Below.drew ?_ | refine below_drewN ?_ _ | refine Below.alloc' ?_ _ | (refine Below.setCell ?_ (by first | omega | (simp; done) | (simp; omega) | exact Below.size (by assumption) | exact Nat.le_trans (Below.size (by assumption)) (by simp)) _) | (refine Below.via' ?_ (by assumption)) | (refine Below.alloc ?_ (by first | omega | (simp; done) | (simp; omega) | exact Below.size (by assumption) | exact Nat.le_trans (Below.size (by assumption)) (by simp)) _) | (refine Below.via ?_ (by assumption) (by first | omega | (simp; done) | (simp; omega) | exact Below.size (by assumption) | exact Nat.le_trans (Below.size (by assumption)) (by simp)))))⟩
  have hrd2 := hrc2 (by omega)
  have hmQ : Q.length ≤ 1048576 := by omega
  have htQ : tot Q ≤ 1048576 := by omega
  clear hrc2
  have hLl : (pbL S (eM Q) G V).length ≤ 1048576 := Nat.le_trans pbL_len (by decide)
  obtain ⟨LL, hLL⟩ : ∃ LL, LL = pbL S (eM Q) G V := ⟨_, rfl⟩
  rw [← hLL] at hLl
  replace hLL := Lib.hid hLL
  go_wp2_with fail
  refine (toVariableS_any _ _ S _ hm (hS.out.below (by exact (by repeat (first | exact Below.refl _ _ | assumption | refine Below.drew ?_ | refine below_drewN ?_ _ | refine Below.alloc' ?_ _ | (refine Below.setCell ?_ (by first | omega | (simp; done) | (simp; omega) | exact Below.size (by assumption) | exact Nat.le_trans (Below.size (by assumption)) (by simp)) _) | (refine Below.via' ?_ (by assumption)) | (refine Below.alloc ?_ (by first | omega | (simp; done) | (simp; omega) | exact Below.size (by assumption) | exact Nat.le_trans (Below.size (by assumption)) (by simp)) _) | (refine Below.via ?_ (by assumption) (by first | omega | (simp; done) | (simp; omega) | exact Below.size (by assumption) | exact Nat.le_trans (Below.size (by assumption)) (by simp)))))))).mono ?_
  rintro e w3 ⟨rfl, ho3, hb3⟩
  have hi3 : Hid (SIn w3 (some ⟨w2.heap.size, 0, none⟩) S.length S) := ⟨hm, Nat.le_refl _, hn.out, Rd.of_own ho3⟩
  have hz3 := hb3.size; (try simp at hz3); (try (have hly3 := Nat.lt_of_succ_le hz3)); (try (have hlx3 := Nat.lt_of_succ_lt hly3)); (try (have hlw3 := Nat.lt_of_succ_lt hlx3)); (try (have hle3 := Nat.le_of_lt hly3))
  go_wp2_with fail
  refine (toEditS_any _ _ Q _ hmQ (fun q hq => ⟨by have := tot_mem hq; omega, (hQ.out.2.1 q hq).2.2.below (by exact (by repeat (first | exact Below.refl _ _ | assumption | refine Below.drew ?_ | refine below_drewN ?_ _ | refine Below.alloc' ?_ _ | (refine Below.setCell ?_ (by first | omega | (simp; done) | (simp; omega) | exact Below.size (by assumption) | exact Nat.le_trans (Below.size (by assumption)) (by simp)) _) | (refine Below.via' ?_ (by assumption)) | (refine Below.alloc ?_ (by first | omega | (simp; done) | (simp; omega) | exact Below.size (by assumption) | exact Nat.le_trans (Below.size (by assumption)) (by simp)) _) | (refine Below.via ?_ (by assumption) (by first | omega | (simp; done) | (simp; omega) | exact Below.size (by assumption) | exact Nat.le_trans (Below.size (by assumption)) (by simp))))))⟩) (hQ.out.2.2.below (by exact (by repeat (first | exact Below.refl _ _ | assumption | refine Below.drew ?_ | refine below_drewN ?_ _ | refine Below.alloc' ?_ _ | (refine Below.setCell ?_ (by first | omega | (simp; done) | (simp; omega) | exact Below.size (by assumption) | exact Nat.le_trans (Below.size (by assumption)) (by simp)) _) | (refine Below.via' ?_ (by assumption)) | (refine Below.alloc ?_ (by first | omega | (simp; done) | (simp; omega) | exact Below.size (by assumption) | exact Nat.le_trans (Below.size (by assumption)) (by simp)) _) | (refine Below.via ?_ (by assumption) (by first | omega | (simp; done) | (simp; omega) | exact Below.size (by assumption) | exact Nat.le_trans (Below.size (by assumption)) (by simp)))))))).mono ?_
  rintro e w4 ⟨T4, rfl, hpm4, ho4, hb4⟩
  have hi4 : Hid (EIn w4 (some ⟨w3.heap.size, 0, none⟩) T4) := Lib.hid (EIn.of_owE ho4 hpm4 hQ.out hmQ htQ)
  replace hpm4 := Lib.hid hpm4
  have hz4 := hb4.size; (try simp at hz4); (try (have hly4 := Nat.lt_of_succ_le hz4)); (try (have hlx4 := Nat.lt_of_succ_lt hly4)); (try (have hlw4 := Nat.lt_of_succ_lt hlx4)); (try (have hle4 := Nat.le_of_lt hly4))
  go_wp2_with fail
  refine (toIntS_any xG cG G _ hmG (hG.out.below (by exact (by repeat (first | exact Below.refl _ _ | assumption | refine Below.drew ?_ | refine below_drewN ?_ _ | refine Below.alloc' ?_ _ | (refine Below.setCell ?_ (by first | omega | (simp; done) | (simp; omega) | exact Below.size (by assumption) | exact Nat.le_trans (Below.size (by assumption)) (by simp)) _) | (refine Below.via' ?_ (by assumption)) | (refine Below.alloc ?_ (by first | omega | (simp; done) | (simp; omega) | exact Below.size (by assumption) | exact Nat.le_trans (Below.size (by assumption)) (by simp)) _) | (refine Below.via ?_ (by assumption) (by first | omega | (simp; done) | (simp; omega) | exact Below.size (by assumption) | exact Nat.le_trans (Below.size (by assumption)) (by simp)))))))).mono ?_
  rintro e w5 ⟨rfl, ho5, hb5⟩
  have hi5 : Hid (IIn w5 (some ⟨w4.heap.size, 0, none⟩) G) := ⟨hmG, hnG.out, Rd.of_own ho5⟩
  have hz5 := hb5.size; (try simp at hz5); (try (have hly5 := Nat.lt_of_succ_le hz5)); (try (have hlx5 := Nat.lt_of_succ_lt hly5)); (try (have hlw5 := Nat.lt_of_succ_lt hlx5)); (try (have hle5 := Nat.le_of_lt hly5))
  go_wp2_with fail
  refine (toIntS_any xV cV V _ hmV (hV.out.below (by exact (by repeat (first | exact Below.refl _ _ | assumption | refine Below.drew ?_ | refine below_drewN ?_ _ | refine Below.alloc' ?_ _ | (refine Below.setCell ?_ (by first | omega | (simp; done) | (simp; omega) | exact Below.size (by assumption) | exact Nat.le_trans (Below.size (by assumption)) (by simp)) _) | (refine Below.via' ?_ (by assumption)) | (refine Below.alloc ?_ (by first | omega | (simp; done) | (simp; omega) | exact Below.size (by assumption) | exact Nat.le_trans (Below.size (by assumption)) (by simp)) _) | (refine Below.via ?_ (by assumption) (by first | omega | (simp; done) | (simp; omega) | exact Below.size (by assumption) | exact Nat.le_trans (Below.size (by assumption)) (by simp)))))))).mono ?_
  rintro e w6 ⟨rfl, ho6, hb6⟩
  have hi6 : Hid (IIn w6 (some ⟨w5.heap.size, 0, none⟩) V) := ⟨hmV, hnV.out, Rd.of_own ho6⟩
  have hz6 := hb6.size; (try simp at hz6); (try (have hly6 := Nat.lt_of_succ_le hz6)); (try (have hlx6 := Nat.lt_of_succ_lt hly6)); (try (have hlw6 := Nat.lt_of_succ_lt hlx6)); (try (have hle6 := Nat.le_of_lt hly6))
  go_wp2_with fail
  refine (sPB_m _ _ _ _ _ _ _ _ S T4 G V _ (hi3.out.below (by exact (by repeat (first | exact Below.refl _ _ | assumption | refine Below.drew ?_ | refine below_drewN ?_ _ | refine Below.alloc' ?_ _ | (refine Below.setCell ?_ (by first | omega | (simp; done) | (simp; omega) | exact Below.size (by assumption) | exact Nat.le_trans (Below.size (by assumption)) (by simp)) _) | (refine Below.via' ?_ (by assumption)) | (refine Below.alloc ?_ (by first | omega | (simp; done) | (simp; omega) | exact Below.size (by assumption) | exact Nat.le_trans (Below.size (by assumption)) (by simp)) _) | (refine Below.via ?_ (by assumption) (by first | omega | (simp; done) | (simp; omega) | exact Below.size (by assumption) | exact Nat.le_trans (Below.size (by assumption)) (by simp))))))) (hi4.out.below (by exact (by repeat (first | exact Below.refl _ _ | assumption | refine Below.drew ?_ | refine below_drewN ?_ _ | refine Below.alloc' ?_ _ | (refine Below.setCell ?_ (by first | omega | (simp; done) | (simp; omega) | exact Below.size (by assumption) | exact Nat.le_trans (Below.size (by assumption)) (by simp)) _) | (refine Below.via' ?_ (by assumption)) | (refine Below.alloc ?_ (by first | omega | (simp; done) | (simp; omega) | exact Below.size (by assumption) | exact Nat.le_trans (Below.size (by assumption)) (by simp)) _) | (refine Below.via ?_ (by assumption) (by first | omega | (simp; done) | (simp; omega) | exact Below.size (by assumption) | exact Nat.le_trans (Below.size (by assumption)) (by simp))))))) (hi5.out.below (by exact (by repeat (first | exact Below.refl _ _ | assumption | refine Below.drew ?_ | refine below_drewN ?_ _ | refine Below.alloc' ?_ _ | (refine Below.setCell ?_ (by first | omega | (simp; done) | (simp; omega) | exact Below.size (by assumption) | exact Nat.le_trans (Below.size (by assumption)) (by simp)) _) | (refine Below.via' ?_ (by assumption)) | (refine Below.alloc ?_ (by first | omega | (simp; done) | (simp; omega) | exact Below.size (by assumption) | exact Nat.le_trans (Below.size (by assumption)) (by simp)) _) | (refine Below.via ?_ (by assumption) (by first | omega | (simp; done) | (simp; omega) | exact Below.size (by assumption) | exact Nat.le_trans (Below.size (by assumption)) (by simp))))))) (hi6.out.below (by exact (by repeat (first | exact Below.refl _ _ | assumption | refine Below.drew ?_ | refine below_drewN ?_ _ | refine Below.alloc' ?_ _ | (refine Below.setCell ?_ (by first | omega | (simp; done) | (simp; omega) | exact Below.size (by assumption) | exact Nat.le_trans (Below.size (by assumption)) (by simp)) _) | (refine Below.via' ?_ (by assumption)) | (refine Below.alloc ?_ (by first | omega | (simp; done) | (simp; omega) | exact Below.size (by assumption) | exact Nat.le_trans (Below.size (by assumption)) (by simp)) _) | (refine Below.via ?_ (by assumption) (by first | omega | (simp; done) | (simp; omega) | exact Below.size (by assumption) | exact Nat.le_trans (Below.size (by assumption)) (by simp))))))) (eM Q) (show eM T4 = eM Q from hpm4)).mono ?_
  rintro e w7 ⟨u7, rfl, ho7, hb7⟩
  have hz7 := hb7.size; (try simp at hz7); (try (have hly7 := Nat.lt_of_succ_le hz7)); (try (have hlx7 := Nat.lt_of_succ_lt hly7)); (try (have hlw7 := Nat.lt_of_succ_lt hlx7)); (try (have hle7 := Nat.le_of_lt hly7))
  rw [← hLL.out] at ho7
  have hWr := OwR.of ho7
  go_wp2_with fail
  refine (toVariableS_any _ _ S _ hm (hS.out.below (by exact (by repeat (first | exact Below.refl _ _ | assumption | refine Below.drew ?_ | refine below_drewN ?_ _ | refine Below.alloc' ?_ _ | (refine Below.setCell ?_ (by first | omega | (simp; done) | (simp; omega) | exact Below.size (by assumption) | exact Nat.le_trans (Below.size (by assumption)) (by simp)) _) | (refine Below.via' ?_ (by assumption)) | (refine Below.alloc ?_ (by first | omega | (simp; done) | (simp; omega) | exact Below.size (by assumption) | exact Nat.le_trans (Below.size (by assumption)) (by simp)) _) | (refine Below.via ?_ (by assumption) (by first | omega | (simp; done) | (simp; omega) | exact Below.size (by assumption) | exact Nat.le_trans (Below.size (by assumption)) (by simp)))))))).mono ?_
  rintro e w8 ⟨rfl, ho8, hb8⟩
  have hi8 : Hid (SIn w8 (some ⟨w7.heap.size, 0, none⟩) S.length S) := ⟨hm, Nat.le_refl _, hn.out, Rd.of_own ho8⟩
  have hz8 := hb8.size; (try simp at hz8); (try (have hly8 := Nat.lt_of_succ_le hz8)); (try (have hlx8 := Nat.lt_of_succ_lt hly8)); (try (have hlw8 := Nat.lt_of_succ_lt hlx8)); (try (have hle8 := Nat.le_of_lt hly8))
  go_wp2_with fail
  refine (toEditS_any _ _ Q _ hmQ (fun q hq => ⟨by have := tot_mem hq; omega, (hQ.out.2.1 q hq).2.2.below (by exact (by repeat (first | exact Below.refl _ _ | assumption | refine Below.drew ?_ | refine below_drewN ?_ _ | refine Below.alloc' ?_ _ | (refine Below.setCell ?_ (by first | omega | (simp; done) | (simp; omega) | exact Below.size (by assumption) | exact Nat.le_trans (Below.size (by assumption)) (by simp)) _) | (refine Below.via' ?_ (by assumption)) | (refine Below.alloc ?_ (by first | omega | (simp; done) | (simp; omega) | exact Below.size (by assumption) | exact Nat.le_trans (Below.size (by assumption)) (by simp)) _) | (refine Below.via ?_ (by assumption) (by first | omega | (simp; done) | (simp; omega) | exact Below.size (by assumption) | exact Nat.le_trans (Below.size (by assumption)) (by simp))))))⟩) (hQ.out.2.2.below (by exact (by repeat (first | exact Below.refl _ _ | assumption | refine Below.drew ?_ | refine below_drewN ?_ _ | refine Below.alloc' ?_ _ | (refine Below.setCell ?_ (by first | omega | (simp; done) | (simp; omega) | exact Below.size (by assumption) | exact Nat.le_trans (Below.size (by assumption)) (by simp)) _) | (refine Below.via' ?_ (by assumption)) | (refine Below.alloc ?_ (by first | omega | (simp; done) | (simp; omega) | exact Below.size (by assumption) | exact Nat.le_trans (Below.size (by assumption)) (by simp)) _) | (refine Below.via ?_ (by assumption) (by first | omega | (simp; done) | (simp; omega) | exact Below.size (by assumption) | exact Nat.le_trans (Below.size (by assumption)) (by simp)))))))).mono ?_
  rintro e w9 ⟨T9, rfl, hpm9, ho9, hb9⟩
  have hi9 : Hid (EIn w9 (some ⟨w8.heap.size, 0, none⟩) T9) := Lib.hid (EIn.of_owE ho9 hpm9 hQ.out hmQ htQ)
  replace hpm9 := Lib.hid hpm9
  have hz9 := hb9.size; (try simp at hz9); (try (have hly9 := Nat.lt_of_succ_le hz9)); (try (have hlx9 := Nat.lt_of_succ_lt hly9)); (try (have hlw9 := Nat.lt_of_succ_lt hlx9)); (try (have hle9 := Nat.le_of_lt hly9))
  go_wp2_with fail
  refine (toIntS_any xG cG G _ hmG (hG.out.below (by exact (by repeat (first | exact Below.refl _ _ | assumption | refine Below.drew ?_ | refine below_drewN ?_ _ | refine Below.alloc' ?_ _ | (refine Below.setCell ?_ (by first | omega | (simp; done) | (simp; omega) | exact Below.size (by assumption) | exact Nat.le_trans (Below.size (by assumption)) (by simp)) _) | (refine Below.via' ?_ (by assumption)) | (refine Below.alloc ?_ (by first | omega | (simp; done) | (simp; omega) | exact Below.size (by assumption) | exact Nat.le_trans (Below.size (by assumption)) (by simp)) _) | (refine Below.via ?_ (by assumption) (by first | omega | (simp; done) | (simp; omega) | exact Below.size (by assumption) | exact Nat.le_trans (Below.size (by assumption)) (by simp)))))))).mono ?_
  rintro e w10 ⟨rfl, ho10, hb10⟩
  have hi10 : Hid (IIn w10 (some ⟨w9.heap.size, 0, none⟩) G) := ⟨hmG, hnG.out, Rd.of_own ho10⟩
  have hz10 := hb10.size; (try simp at hz10); (try (have hly10 := Nat.lt_of_succ_le hz10)); (try (have hlx10 := Nat.lt_of_succ_lt hly10)); (try (have hlw10 := Nat.lt_of_succ_lt hlx10)); (try (have hle10 := Nat.le_of_lt hly10))
  go_wp2_with fail
  refine (toIntS_any xV cV V _ hmV (hV.out.below (by exact (by repeat (first | exact Below.refl _ _ | assumption | refine Below.drew ?_ | refine below_drewN ?_ _ | refine Below.alloc' ?_ _ | (refine Below.setCell ?_ (by first | omega | (simp; done) | (simp; omega) | exact Below.size (by assumption) | exact Nat.le_trans (Below.size (by assumption)) (by simp)) _) | (refine Below.via' ?_ (by assumption)) | (refine Below.alloc ?_ (by first | omega | (simp; done) | (simp; omega) | exact Below.size (by assumption) | exact Nat.le_trans (Below.size (by assumption)) (by simp)) _) | (refine Below.via ?_ (by assumption) (by first | omega | (simp; done) | (simp; omega) | exact Below.size (by assumption) | exact Nat.le_trans (Below.size (by assumption)) (by simp)))))))).mono ?_
  rintro e w11 ⟨rfl, ho11, hb11⟩
  have hi11 : Hid (IIn w11 (some ⟨w10.heap.size, 0, none⟩) V) := ⟨hmV, hnV.out, Rd.of_own ho11⟩
  have hz11 := hb11.size; (try simp at hz11); (try (have hly11 := Nat.lt_of_succ_le hz11)); (try (have hlx11 := Nat.lt_of_succ_lt hly11)); (try (have hlw11 := Nat.lt_of_succ_lt hlx11)); (try (have hle11 := Nat.le_of_lt hly11))
  go_wp2_with fail
  refine (iPB_m _ _ _ _ _ _ _ _ S T9 G V _ (hi8.out.below (by exact (by repeat (first | exact Below.refl _ _ | assumption | refine Below.drew ?_ | refine below_drewN ?_ _ | refine Below.alloc' ?_ _ | (refine Below.setCell ?_ (by first | omega | (simp; done) | (simp; omega) | exact Below.size (by assumption) | exact Nat.le_trans (Below.size (by assumption)) (by simp)) _) | (refine Below.via' ?_ (by assumption)) | (refine Below.alloc ?_ (by first | omega | (simp; done) | (simp; omega) | exact Below.size (by assumption) | exact Nat.le_trans (Below.size (by assumption)) (by simp)) _) | (refine Below.via ?_ (by assumption) (by first | omega | (simp; done) | (simp; omega) | exact Below.size (by assumption) | exact Nat.le_trans (Below.size (by assumption)) (by simp))))))) (hi9.out.below (by exact (by repeat (first | exact Below.refl _ _ | assumption | refine Below.drew ?_ | refine below_drewN ?_ _ | refine Below.alloc' ?_ _ | (refine Below.setCell ?_ (by first | omega | (simp; done) | (simp; omega) | exact Below.size (by assumption) | exact Nat.le_trans (Below.size (by assumption)) (by simp)) _) | (refine Below.via' ?_ (by assumption)) | (refine Below.alloc ?_ (by first | omega | (simp; done) | (simp; omega) | exact Below.size (by assumption) | exact Nat.le_trans (Below.size (by assumption)) (by simp)) _) | (refine Below.via ?_ (by assumption) (by first | omega | (simp; done) | (simp; omega) | exact Below.size (by assumption) | exact Nat.le_trans (Below.size (by assumption)) (by simp))))))) (hi10.out.below (by exact (by repeat (first | exact Below.refl _ _ | assumption | refine Below.drew ?_ | refine below_drewN ?_ _ | refine Below.alloc' ?_ _ | (refine Below.setCell ?_ (by first | omega | (simp; done) | (simp; omega) | exact Below.size (by assumption) | exact Nat.le_trans (Below.size (by assumption)) (by simp)) _) | (refine Below.via' ?_ (by assumption)) | (refine Below.alloc ?_ (by first | omega | (simp; done) | (simp; omega) | exact Below.size (by assumption) | exact Nat.le_trans (Below.size (by assumption)) (by simp)) _) | (refine Below.via ?_ (by assumption) (by first | omega | (simp; done) | (simp; omega) | exact Below.size (by assumption) | exact Nat.le_trans (Below.size (by assumption)) (by simp))))))) (hi11.out.below (by exact (by repeat (first | exact Below.refl _ _ | assumption | refine Below.drew ?_ | refine below_drewN ?_ _ | refine Below.alloc' ?_ _ | (refine Below.setCell ?_ (by first | omega | (simp; done) | (simp; omega) | exact Below.size (by assumption) | exact Nat.le_trans (Below.size (by assumption)) (by simp)) _) | (refine Below.via' ?_ (by assumption)) | (refine Below.alloc ?_ (by first | omega | (simp; done) | (simp; omega) | exact Below.size (by assumption) | exact Nat.le_trans (Below.size (by assumption)) (by simp)) _) | (refine Below.via ?_ (by assumption) (by first | omega | (simp; done) | (simp; omega) | exact Below.size (by assumption) | exact Nat.le_trans (Below.size (by assumption)) (by simp))))))) (eM Q) (show eM T9 = eM Q from hpm9)).mono ?_
  rintro e w12 ⟨u12, rfl, ho12, hb12⟩
  rw [← hLL.out] at ho12
  have hRr := OwR.of ho12
  have hz12 := hb12.size; (try simp at hz12); (try (have hly12 := Nat.lt_of_succ_le hz12)); (try (have hlx12 := Nat.lt_of_succ_lt hly12)); (try (have hlw12 := Nat.lt_of_succ_lt hlx12)); (try (have hle12 := Nat.le_of_lt hly12))
  obtain ⟨xW, nW, rfl, hnW, hmW⟩ := hWr.form
  obtain ⟨xR, nR, rfl, hnR, hmR⟩ := hRr.form
  have hW12 := Lib.hid (hWr.below (show Below w7.heap.size w7 w12 from (by repeat (first | exact Below.refl _ _ | assumption | refine Below.drew ?_ | refine below_drewN ?_ _ | refine Below.alloc' ?_ _ | (refine Below.setCell ?_ (by first | omega | (simp; done) | (simp; omega) | exact Below.size (by assumption) | exact Nat.le_trans (Below.size (by assumption)) (by simp)) _) | (refine Below.via' ?_ (by assumption)) | (refine Below.alloc ?_ (by first | omega | (simp; done) | (simp; omega) | exact Below.size (by assumption) | exact Nat.le_trans (Below.size (by assumption)) (by simp)) _) | (refine Below.via ?_ (by assumption) (by first | omega | (simp; done) | (simp; omega) | exact Below.size (by assumption) | exact Nat.le_trans (Below.size (by assumption)) (by simp)))))))
  go_wp2_with fail
  refine (eqIntS_any _ _ _ _ LL _ (by omega) hRr.rd hW12.out.rd).mono ?_
  rintro e w13 ⟨rfl, hb13⟩
  go_wp2_with fail
  refine (toVariableS_any _ _ S _ hm (hS.out.below (by exact (by repeat (first | exact Below.refl _ _ | assumption | refine Below.drew ?_ | refine below_drewN ?_ _ | refine Below.alloc' ?_ _ | (refine Below.setCell ?_ (by first | omega | (simp; done) | (simp; omega) | exact Below.size (by assumption) | exact Nat.le_trans (Below.size (by assumption)) (by simp)) _) | (refine Below.via' ?_ (by assumption)) | (refine Below.alloc ?_ (by first | omega | (simp; done) | (simp; omega) | exact Below.size (by assumption) | exact Nat.le_trans (Below.size (by assumption)) (by simp)) _) | (refine Below.via ?_ (by assumption) (by first | omega | (simp; done) | (simp; omega) | exact Below.size (by assumption) | exact Nat.le_trans (Below.size (by assumption)) (by simp)))))))).mono ?_
  rintro e w14 ⟨rfl, ho14, hb14⟩
  have hi14 : Hid (SIn w14 (some ⟨w13.heap.size, 0, none⟩) S.length S) := ⟨hm, Nat.le_refl _, hn.out, Rd.of_own ho14⟩
  have hz14 := hb14.size; (try simp at hz14); (try (have hly14 := Nat.lt_of_succ_le hz14)); (try (have hlx14 := Nat.lt_of_succ_lt hly14)); (try (have hlw14 := Nat.lt_of_succ_lt hlx14)); (try (have hle14 := Nat.le_of_lt hly14))
  go_wp2_with fail
  refine (eqVariableS_any _ _ _ _ S _ hlen (hi8.out.rd.below (by exact (by repeat (first | exact Below.refl _ _ | assumption | refine Below.drew ?_ | refine below_drewN ?_ _ | refine Below.alloc' ?_ _ | (refine Below.setCell ?_ (by first | omega | (simp; done) | (simp; omega) | exact Below.size (by assumption) | exact Nat.le_trans (Below.size (by assumption)) (by simp)) _) | (refine Below.via' ?_ (by assumption)) | (refine Below.alloc ?_ (by first | omega | (simp; done) | (simp; omega) | exact Below.size (by assumption) | exact Nat.le_trans (Below.size (by assumption)) (by simp)) _) | (refine Below.via ?_ (by assumption) (by first | omega | (simp; done) | (simp; omega) | exact Below.size (by assumption) | exact Nat.le_trans (Below.size (by assumption)) (by simp))))))) hi14.out.rd).mono ?_
  rintro e w15 ⟨rfl, hb15⟩
  go_wp2_with fail
  refine (toEditS_any _ _ Q _ hmQ (fun q hq => ⟨by have := tot_mem hq; omega, (hQ.out.2.1 q hq).2.2.below (by exact (by repeat (first | exact Below.refl _ _ | assumption | refine Below.drew ?_ | refine below_drewN ?_ _ | refine Below.alloc' ?_ _ | (refine Below.setCell ?_ (by first | omega | (simp; done) | (simp; omega) | exact Below.size (by assumption) | exact Nat.le_trans (Below.size (by assumption)) (by simp)) _) | (refine Below.via' ?_ (by assumption)) | (refine Below.alloc ?_ (by first | omega | (simp; done) | (simp; omega) | exact Below.size (by assumption) | exact Nat.le_trans (Below.size (by assumption)) (by simp)) _) | (refine Below.via ?_ (by assumption) (by first | omega | (simp; done) | (simp; omega) | exact Below.size (by assumption) | exact Nat.le_trans (Below.size (by assumption)) (by simp))))))⟩) (hQ.out.2.2.below (by exact (by repeat (first | exact Below.refl _ _ | assumption | refine Below.drew ?_ | refine below_drewN ?_ _ | refine Below.alloc' ?_ _ | (refine Below.setCell ?_ (by first | omega | (simp; done) | (simp; omega) | exact Below.size (by assumption) | exact Nat.le_trans (Below.size (by assumption)) (by simp)) _) | (refine Below.via' ?_ (by assumption)) | (refine Below.alloc ?_ (by first | omega | (simp; done) | (simp; omega) | exact Below.size (by assumption) | exact Nat.le_trans (Below.size (by assumption)) (by simp)) _) | (refine Below.via ?_ (by assumption) (by first | omega | (simp; done) | (simp; omega) | exact Below.size (by assumption) | exact Nat.le_trans (Below.size (by assumption)) (by simp)))))))).mono ?_
  rintro e w16 ⟨T16, rfl, hpm16, ho16, hb16⟩
  have hi16 : Hid (EIn w16 (some ⟨w15.heap.size, 0, none⟩) T16) := Lib.hid (EIn.of_owE ho16 hpm16 hQ.out hmQ htQ)
  replace hpm16 := Lib.hid hpm16
  have hz16 := hb16.size; (try simp at hz16); (try (have hly16 := Nat.lt_of_succ_le hz16)); (try (have hlx16 := Nat.lt_of_succ_lt hly16)); (try (have hlw16 := Nat.lt_of_succ_lt hlx16)); (try (have hle16 := Nat.le_of_lt hly16))
  go_wp2_with fail
  refine (eqEditS_any _ _ _ _ T9 T16 _ (hi9.out.below (by exact (by repeat (first | exact Below.refl _ _ | assumption | refine Below.drew ?_ | refine below_drewN ?_ _ | refine Below.alloc' ?_ _ | (refine Below.setCell ?_ (by first | omega | (simp; done) | (simp; omega) | exact Below.size (by assumption) | exact Nat.le_trans (Below.size (by assumption)) (by simp)) _) | (refine Below.via' ?_ (by assumption)) | (refine Below.alloc ?_ (by first | omega | (simp; done) | (simp; omega) | exact Below.size (by assumption) | exact Nat.le_trans (Below.size (by assumption)) (by simp)) _) | (refine Below.via ?_ (by assumption) (by first | omega | (simp; done) | (simp; omega) | exact Below.size (by assumption) | exact Nat.le_trans (Below.size (by assumption)) (by simp))))))).len.1 (hi9.out.below (by exact (by repeat (first | exact Below.refl _ _ | assumption | refine Below.drew ?_ | refine below_drewN ?_ _ | refine Below.alloc' ?_ _ | (refine Below.setCell ?_ (by first | omega | (simp; done) | (simp; omega) | exact Below.size (by assumption) | exact Nat.le_trans (Below.size (by assumption)) (by simp)) _) | (refine Below.via' ?_ (by assumption)) | (refine Below.alloc ?_ (by first | omega | (simp; done) | (simp; omega) | exact Below.size (by assumption) | exact Nat.le_trans (Below.size (by assumption)) (by simp)) _) | (refine Below.via ?_ (by assumption) (by first | omega | (simp; done) | (simp; omega) | exact Below.size (by assumption) | exact Nat.le_trans (Below.size (by assumption)) (by simp))))))).len.2 (hpm16.out.trans hpm9.out.symm) (hi9.out.below (by exact (by repeat (first | exact Below.refl _ _ | assumption | refine Below.drew ?_ | refine below_drewN ?_ _ | refine Below.alloc' ?_ _ | (refine Below.setCell ?_ (by first | omega | (simp; done) | (simp; omega) | exact Below.size (by assumption) | exact Nat.le_trans (Below.size (by assumption)) (by simp)) _) | (refine Below.via' ?_ (by assumption)) | (refine Below.alloc ?_ (by first | omega | (simp; done) | (simp; omega) | exact Below.size (by assumption) | exact Nat.le_trans (Below.size (by assumption)) (by simp)) _) | (refine Below.via ?_ (by assumption) (by first | omega | (simp; done) | (simp; omega) | exact Below.size (by assumption) | exact Nat.le_trans (Below.size (by assumption)) (by simp))))))).2.2 (hi9.out.below (by exact (by repeat (first | exact Below.refl _ _ | assumption | refine Below.drew ?_ | refine below_drewN ?_ _ | refine Below.alloc' ?_ _ | (refine Below.setCell ?_ (by first | omega | (simp; done) | (simp; omega) | exact Below.size (by assumption) | exact Nat.le_trans (Below.size (by assumption)) (by simp)) _) | (refine Below.via' ?_ (by assumption)) | (refine Below.alloc ?_ (by first | omega | (simp; done) | (simp; omega) | exact Below.size (by assumption) | exact Nat.le_trans (Below.size (by assumption)) (by simp)) _) | (refine Below.via ?_ (by assumption) (by first | omega | (simp; done) | (simp; omega) | exact Below.size (by assumption) | exact Nat.le_trans (Below.size (by assumption)) (by simp))))))).inn hi16.out.2.2 hi16.out.inn).mono ?_
  rintro e w17 ⟨rfl, hb17⟩
  go_wp2_with fail
  refine (toIntS_any xG cG G _ hmG (hG.out.below (by exact (by repeat (first | exact Below.refl _ _ | assumption | refine Below.drew ?_ | refine below_drewN ?_ _ | refine Below.alloc' ?_ _ | (refine Below.setCell ?_ (by first | omega | (simp; done) | (simp; omega) | exact Below.size (by assumption) | exact Nat.le_trans (Below.size (by assumption)) (by simp)) _) | (refine Below.via' ?_ (by assumption)) | (refine Below.alloc ?_ (by first | omega | (simp; done) | (simp; omega) | exact Below.size (by assumption) | exact Nat.le_trans (Below.size (by assumption)) (by simp)) _) | (refine Below.via ?_ (by assumption) (by first | omega | (simp; done) | (simp; omega) | exact Below.size (by assumption) | exact Nat.le_trans (Below.size (by assumption)) (by simp)))))))).mono ?_
  rintro e w18 ⟨rfl, ho18, hb18⟩
  have hi18 : Hid (IIn w18 (some ⟨w17.heap.size, 0, none⟩) G) := ⟨hmG, hnG.out, Rd.of_own ho18⟩
  have hz18 := hb18.size; (try simp at hz18); (try (have hly18 := Nat.lt_of_succ_le hz18)); (try (have hlx18 := Nat.lt_of_succ_lt hly18)); (try (have hlw18 := Nat.lt_of_succ_lt hlx18)); (try (have hle18 := Nat.le_of_lt hly18))
  go_wp2_with fail
  refine (eqIntS_any _ _ _ _ G _ hlG (hi10.out.2.2.below (by exact (by repeat (first | exact Below.refl _ _ | assumption | refine Below.drew ?_ | refine below_drewN ?_ _ | refine Below.alloc' ?_ _ | (refine Below.setCell ?_ (by first | omega | (simp; done) | (simp; omega) | exact Below.size (by assumption) | exact Nat.le_trans (Below.size (by assumption)) (by simp)) _) | (refine Below.via' ?_ (by assumption)) | (refine Below.alloc ?_ (by first | omega | (simp; done) | (simp; omega) | exact Below.size (by assumption) | exact Nat.le_trans (Below.size (by assumption)) (by simp)) _) | (refine Below.via ?_ (by assumption) (by first | omega | (simp; done) | (simp; omega) | exact Below.size (by assumption) | exact Nat.le_trans (Below.size (by assumption)) (by simp))))))) hi18.out.2.2).mono ?_
  rintro e w19 ⟨rfl, hb19⟩
  go_wp2_with fail
  refine (toIntS_any xV cV V _ hmV (hV.out.below (by exact (by repeat (first | exact Below.refl _ _ | assumption | refine Below.drew ?_ | refine below_drewN ?_ _ | refine Below.alloc' ?_ _ | (refine Below.setCell ?_ (by first | omega | (simp; done) | (simp; omega) | exact Below.size (by assumption) | exact Nat.le_trans (Below.size (by assumption)) (by simp)) _) | (refine Below.via' ?_ (by assumption)) | (refine Below.alloc ?_ (by first | omega | (simp; done) | (simp; omega) | exact Below.size (by assumption) | exact Nat.le_trans (Below.size (by assumption)) (by simp)) _) | (refine Below.via ?_ (by assumption) (by first | omega | (simp; done) | (simp; omega) | exact Below.size (by assumption) | exact Nat.le_trans (Below.size (by assumption)) (by simp)))))))).mono ?_
  rintro e w20 ⟨rfl, ho20, hb20⟩
  have hi20 : Hid (IIn w20 (some ⟨w19.heap.size, 0, none⟩) V) := ⟨hmV, hnV.out, Rd.of_own ho20⟩
  have hz20 := hb20.size; (try simp at hz20); (try (have hly20 := Nat.lt_of_succ_le hz20)); (try (have hlx20 := Nat.lt_of_succ_lt hly20)); (try (have hlw20 := Nat.lt_of_succ_lt hlx20)); (try (have hle20 := Nat.le_of_lt hly20))
  go_wp2_with fail
  refine (eqIntS_any _ _ _ _ V _ hlV (hi11.out.2.2.below (by exact (by repeat (first | exact Below.refl _ _ | assumption | refine Below.drew ?_ | refine below_drewN ?_ _ | refine Below.alloc' ?_ _ | (refine Below.setCell ?_ (by first | omega | (simp; done) | (simp; omega) | exact Below.size (by assumption) | exact Nat.le_trans (Below.size (by assumption)) (by simp)) _) | (refine Below.via' ?_ (by assumption)) | (refine Below.alloc ?_ (by first | omega | (simp; done) | (simp; omega) | exact Below.size (by assumption) | exact Nat.le_trans (Below.size (by assumption)) (by simp)) _) | (refine Below.via ?_ (by assumption) (by first | omega | (simp; done) | (simp; omega) | exact Below.size (by assumption) | exact Nat.le_trans (Below.size (by assumption)) (by simp))))))) hi20.out.2.2).mono ?_
  rintro e w21 ⟨rfl, hb21⟩
  have cc0 : w.heap.size ≤ w7.heap.size := (show Below w.heap.size w w7 from (by repeat (first | exact Below.refl _ _ | assumption | refine Below.drew ?_ | refine below_drewN ?_ _ | refine Below.alloc' ?_ _ | (refine Below.setCell ?_ (by first | omega | (simp; done) | (simp; omega) | exact Below.size (by assumption) | exact Nat.le_trans (Below.size (by assumption)) (by simp)) _) | (refine Below.via' ?_ (by assumption)) | (refine Below.alloc ?_ (by first | omega | (simp; done) | (simp; omega) | exact Below.size (by assumption) | exact Nat.le_trans (Below.size (by assumption)) (by simp)) _) | (refine Below.via ?_ (by assumption) (by first | omega | (simp; done) | (simp; omega) | exact Below.size (by assumption) | exact Nat.le_trans (Below.size (by assumption)) (by simp)))))).size
  have cc1 : w7.heap.size ≤ w8.heap.size := (show Below w7.heap.size w7 w8 from (by repeat (first | exact Below.refl _ _ | assumption | refine Below.drew ?_ | refine below_drewN ?_ _ | refine Below.alloc' ?_ _ | (refine Below.setCell ?_ (by first | omega | (simp; done) | (simp; omega) | exact Below.size (by assumption) | exact Nat.le_trans (Below.size (by assumption)) (by simp)) _) | (refine Below.via' ?_ (by assumption)) | (refine Below.alloc ?_ (by first | omega | (simp; done) | (simp; omega) | exact Below.size (by assumption) | exact Nat.le_trans (Below.size (by assumption)) (by simp)) _) | (refine Below.via ?_ (by assumption) (by first | omega | (simp; done) | (simp; omega) | exact Below.size (by assumption) | exact Nat.le_trans (Below.size (by assumption)) (by simp)))))).size
  have cc2 : w8.heap.size ≤ w9.heap.size := (show Below w8.heap.size w8 w9 from (by repeat (first | exact Below.refl _ _ | assumption | refine Below.drew ?_ | refine below_drewN ?_ _ | refine Below.alloc' ?_ _ | (refine Below.setCell ?_ (by first | omega | (simp; done) | (simp; omega) | exact Below.size (by assumption) | exact Nat.le_trans (Below.size (by assumption)) (by simp)) _) | (refine Below.via' ?_ (by assumption)) | (refine Below.alloc ?_ (by first | omega | (simp; done) | (simp; omega) | exact Below.size (by assumption) | exact Nat.le_trans (Below.size (by assumption)) (by simp)) _) | (refine Below.via ?_ (by assumption) (by first | omega | (simp; done) | (simp; omega) | exact Below.size (by assumption) | exact Nat.le_trans (Below.size (by assumption)) (by simp)))))).size
  have cc3 : w9.heap.size ≤ w10.heap.size := (show Below w9.heap.size w9 w10 from (by repeat (first | exact Below.refl _ _ | assumption | refine Below.drew ?_ | refine below_drewN ?_ _ | refine Below.alloc' ?_ _ | (refine Below.setCell ?_ (by first | omega | (simp; done) | (simp; omega) | exact Below.size (by assumption) | exact Nat.le_trans (Below.size (by assumption)) (by simp)) _) | (refine Below.via' ?_ (by assumption)) | (refine Below.alloc ?_ (by first | omega | (simp; done) | (simp; omega) | exact Below.size (by assumption) | exact Nat.le_trans (Below.size (by assumption)) (by simp)) _) | (refine Below.via ?_ (by assumption) (by first | omega | (simp; done) | (simp; omega) | exact Below.size (by assumption) | exact Nat.le_trans (Below.size (by assumption)) (by simp)))))).size
  have cc4 : w10.heap.size ≤ w11.heap.size := (show Below w10.heap.size w10 w11 from (by repeat (first | exact Below.refl _ _ | assumption | refine Below.drew ?_ | refine below_drewN ?_ _ | refine Below.alloc' ?_ _ | (refine Below.setCell ?_ (by first | omega | (simp; done) | (simp; omega) | exact Below.size (by assumption) | exact Nat.le_trans (Below.size (by assumption)) (by simp)) _) | (refine Below.via' ?_ (by assumption)) | (refine Below.alloc ?_ (by first | omega | (simp; done) | (simp; omega) | exact Below.size (by assumption) | exact Nat.le_trans (Below.size (by assumption)) (by simp)) _) | (refine Below.via ?_ (by assumption) (by first | omega | (simp; done) | (simp; omega) | exact Below.size (by assumption) | exact Nat.le_trans (Below.size (by assumption)) (by simp)))))).size
  have cc5 : w11.heap.size ≤ w12.heap.size := (show Below w11.heap.size w11 w12 from (by repeat (first | exact Below.refl _ _ | assumption | refine Below.drew ?_ | refine below_drewN ?_ _ | refine Below.alloc' ?_ _ | (refine Below.setCell ?_ (by first | omega | (simp; done) | (simp; omega) | exact Below.size (by assumption) | exact Nat.le_trans (Below.size (by assumption)) (by simp)) _) | (refine Below.via' ?_ (by assumption)) | (refine Below.alloc ?_ (by first | omega | (simp; done) | (simp; omega) | exact Below.size (by assumption) | exact Nat.le_trans (Below.size (by assumption)) (by simp)) _) | (refine Below.via ?_ (by assumption) (by first | omega | (simp; done) | (simp; omega) | exact Below.size (by assumption) | exact Nat.le_trans (Below.size (by assumption)) (by simp)))))).size
  have cc6 : w12.heap.size ≤ w21.heap.size := (show Below w12.heap.size w12 w21 from (by repeat (first | exact Below.refl _ _ | assumption | refine Below.drew ?_ | refine below_drewN ?_ _ | refine Below.alloc' ?_ _ | (refine Below.setCell ?_ (by first | omega | (simp; done) | (simp; omega) | exact Below.size (by assumption) | exact Nat.le_trans (Below.size (by assumption)) (by simp)) _) | (refine Below.via' ?_ (by assumption)) | (refine Below.alloc ?_ (by first | omega | (simp; done) | (simp; omega) | exact Below.size (by assumption) | exact Nat.le_trans (Below.size (by assumption)) (by simp)) _) | (refine Below.via ?_ (by assumption) (by first | omega | (simp; done) | (simp; omega) | exact Below.size (by assumption) | exact Nat.le_trans (Below.size (by assumption)) (by simp)))))).size
  have XS_21 := (OwR.of ho8).below (show Below w8.heap.size w8 w21 from (by repeat (first | exact Below.refl _ _ | assumption | refine Below.drew ?_ | refine below_drewN ?_ _ | refine Below.alloc' ?_ _ | (refine Below.setCell ?_ (by first | omega | (simp; done) | (simp; omega) | exact Below.size (by assumption) | exact Nat.le_trans (Below.size (by assumption)) (by simp)) _) | (refine Below.via' ?_ (by assumption)) | (refine Below.alloc ?_ (by first | omega | (simp; done) | (simp; omega) | exact Below.size (by assumption) | exact Nat.le_trans (Below.size (by assumption)) (by simp)) _) | (refine Below.via ?_ (by assumption) (by first | omega | (simp; done) | (simp; omega) | exact Below.size (by assumption) | exact Nat.le_trans (Below.size (by assumption)) (by simp))))))
  have XQ_21 := ho9.below (show Below w9.heap.size w9 w21 from (by repeat (first | exact Below.refl _ _ | assumption | refine Below.drew ?_ | refine below_drewN ?_ _ | refine Below.alloc' ?_ _ | (refine Below.setCell ?_ (by first | omega | (simp; done) | (simp; omega) | exact Below.size (by assumption) | exact Nat.le_trans (Below.size (by assumption)) (by simp)) _) | (refine Below.via' ?_ (by assumption)) | (refine Below.alloc ?_ (by first | omega | (simp; done) | (simp; omega) | exact Below.size (by assumption) | exact Nat.le_trans (Below.size (by assumption)) (by simp)) _) | (refine Below.via ?_ (by assumption) (by first | omega | (simp; done) | (simp; omega) | exact Below.size (by assumption) | exact Nat.le_trans (Below.size (by assumption)) (by simp))))))
  have XG_21 := (OwR.of ho10).below (show Below w10.heap.size w10 w21 from (by repeat (first | exact Below.refl _ _ | assumption | refine Below.drew ?_ | refine below_drewN ?_ _ | refine Below.alloc' ?_ _ | (refine Below.setCell ?_ (by first | omega | (simp; done) | (simp; omega) | exact Below.size (by assumption) | exact Nat.le_trans (Below.size (by assumption)) (by simp)) _) | (refine Below.via' ?_ (by assumption)) | (refine Below.alloc ?_ (by first | omega | (simp; done) | (simp; omega) | exact Below.size (by assumption) | exact Nat.le_trans (Below.size (by assumption)) (by simp)) _) | (refine Below.via ?_ (by assumption) (by first | omega | (simp; done) | (simp; omega) | exact Below.size (by assumption) | exact Nat.le_trans (Below.size (by assumption)) (by simp))))))
  have XV_21 := (OwR.of ho11).below (show Below w11.heap.size w11 w21 from (by repeat (first | exact Below.refl _ _ | assumption | refine Below.drew ?_ | refine below_drewN ?_ _ | refine Below.alloc' ?_ _ | (refine Below.setCell ?_ (by first | omega | (simp; done) | (simp; omega) | exact Below.size (by assumption) | exact Nat.le_trans (Below.size (by assumption)) (by simp)) _) | (refine Below.via' ?_ (by assumption)) | (refine Below.alloc ?_ (by first | omega | (simp; done) | (simp; omega) | exact Below.size (by assumption) | exact Nat.le_trans (Below.size (by assumption)) (by simp)) _) | (refine Below.via ?_ (by assumption) (by first | omega | (simp; done) | (simp; omega) | exact Below.size (by assumption) | exact Nat.le_trans (Below.size (by assumption)) (by simp))))))
  have R_21 := hRr.below (show Below w12.heap.size w12 w21 from (by repeat (first | exact Below.refl _ _ | assumption | refine Below.drew ?_ | refine below_drewN ?_ _ | refine Below.alloc' ?_ _ | (refine Below.setCell ?_ (by first | omega | (simp; done) | (simp; omega) | exact Below.size (by assumption) | exact Nat.le_trans (Below.size (by assumption)) (by simp)) _) | (refine Below.via' ?_ (by assumption)) | (refine Below.alloc ?_ (by first | omega | (simp; done) | (simp; omega) | exact Below.size (by assumption) | exact Nat.le_trans (Below.size (by assumption)) (by simp)) _) | (refine Below.via ?_ (by assumption) (by first | omega | (simp; done) | (simp; omega) | exact Below.size (by assumption) | exact Nat.le_trans (Below.size (by assumption)) (by simp))))))
  have W_21 := hW12.out.below (show Below w12.heap.size w12 w21 from (by repeat (first | exact Below.refl _ _ | assumption | refine Below.drew ?_ | refine below_drewN ?_ _ | refine Below.alloc' ?_ _ | (refine Below.setCell ?_ (by first | omega | (simp; done) | (simp; omega) | exact Below.size (by assumption) | exact Nat.le_trans (Below.size (by assumption)) (by simp)) _) | (refine Below.via' ?_ (by assumption)) | (refine Below.alloc ?_ (by first | omega | (simp; done) | (simp; omega) | exact Below.size (by assumption) | exact Nat.le_trans (Below.size (by assumption)) (by simp)) _) | (refine Below.via ?_ (by assumption) (by first | omega | (simp; done) | (simp; omega) | exact Below.size (by assumption) | exact Nat.le_trans (Below.size (by assumption)) (by simp))))))
  have B0 : Below w.heap.size w w21 := (by repeat (first | exact Below.refl _ _ | assumption | refine Below.drew ?_ | refine below_drewN ?_ _ | refine Below.alloc' ?_ _ | (refine Below.setCell ?_ (by first | omega | (simp; done) | (simp; omega) | exact Below.size (by assumption) | exact Nat.le_trans (Below.size (by assumption)) (by simp)) _) | (refine Below.via' ?_ (by assumption)) | (refine Below.alloc ?_ (by first | omega | (simp; done) | (simp; omega) | exact Below.size (by assumption) | exact Nat.le_trans (Below.size (by assumption)) (by simp)) _) | (refine Below.via ?_ (by assumption) (by first | omega | (simp; done) | (simp; omega) | exact Below.size (by assumption) | exact Nat.le_trans (Below.size (by assumption)) (by simp)))))
  go_wp2_with fail
  refine (markVariableS_any _ _ _ _ _ _ _ (by omega) (by omega) hm XS_21.1).mono ?_
  rintro e w22 ⟨rfl, -, hg22⟩
  have B22 := Below.mark B0 XS_21 hg22 (by omega)
  have XQ_22 := XQ_21.off (Off.of_grown hg22 (fun k hk => XS_21.2 k hk)) (by omega)
  have XG_22 := XG_21.keep hg22 (fun k hk => by have := XS_21.2 k hk; omega)
  have XV_22 := XV_21.keep hg22 (fun k hk => by have := XS_21.2 k hk; omega)
  have R_22 := R_21.keep hg22 (fun k hk => by have := XS_21.2 k hk; omega)
  have W_22 := W_21.keep hg22 (fun k hk => by have := XS_21.2 k hk; omega)
  go_wp2_with fail
  have htT23 : tot T9 ≤ 1048576 := by have := tot_eM hpm9.out; omega
  have hlT23 : T9.length ≤ 1048576 := by have := eM_length hpm9.out; omega
  refine (markEditS_any _ _ _ _ _ T9 _ (by omega) (by omega) hlT23 htT23 XQ_22).mono ?_
  rintro e w23 ⟨rfl, -, hg23⟩
  have B23 := Below.off B22 hg23 (by omega)
  have XG_23 := XG_22.off hg23 (by omega)
  have XV_23 := XV_22.off hg23 (by omega)
  have R_23 := R_22.off hg23 (by omega)
  have W_23 := W_22.off hg23 (by omega)
  go_wp2_with fail
  refine (markIntS_any _ _ _ _ _ _ _ (by omega) (by omega) hmG XG_23.1).mono ?_
  rintro e w24 ⟨rfl, -, hg24⟩
  have B24 := Below.mark B23 XG_23 hg24 (by omega)
  have XV_24 := XV_23.keep hg24 (fun k hk => by have := XG_23.2 k hk; omega)
  have R_24 := R_23.keep hg24 (fun k hk => by have := XG_23.2 k hk; omega)
  have W_24 := W_23.keep hg24 (fun k hk => by have := XG_23.2 k hk; omega)
  go_wp2_with fail
  refine (markIntS_any _ _ _ _ _ _ _ (by omega) (by omega) hmV XV_24.1).mono ?_
  rintro e w25 ⟨rfl, -, hg25⟩
  have B25 := Below.mark B24 XV_24 hg25 (by omega)
  have R_25 := R_24.keep hg25 (fun k hk => by have := XV_24.2 k hk; omega)
  have W_25 := W_24.keep hg25 (fun k hk => by have := XV_24.2 k hk; omega)
  have hkk : ¬ (1 + 2 * (S.length : Int) + (tot T9 : Int) + (G.length : Int) + (V.length : Int) < 0) := by omega
  go_wp2_with fail
  refine (eqIntS_any _ _ _ _ LL _ (by omega) R_25.rd W_25.rd).mono ?_
  rintro e w26 ⟨rfl, hb26⟩
  have R_26 := R_25.below (show Below w25.heap.size w25 w26 from (by repeat (first | exact Below.refl _ _ | assumption | refine Below.drew ?_ | refine below_drewN ?_ _ | refine Below.alloc' ?_ _ | (refine Below.setCell ?_ (by first | omega | (simp; done) | (simp; omega) | exact Below.size (by assumption) | exact Nat.le_trans (Below.size (by assumption)) (by simp)) _) | (refine Below.via' ?_ (by assumption)) | (refine Below.alloc ?_ (by first | omega | (simp; done) | (simp; omega) | exact Below.size (by assumption) | exact Nat.le_trans (Below.size (by assumption)) (by simp)) _) | (refine Below.via ?_ (by assumption) (by first | omega | (simp; done) | (simp; omega) | exact Below.size (by assumption) | exact Nat.le_trans (Below.size (by assumption)) (by simp))))))
  have W_26 := W_25.below (show Below w25.heap.size w25 w26 from (by repeat (first | exact Below.refl _ _ | assumption | refine Below.drew ?_ | refine below_drewN ?_ _ | refine Below.alloc' ?_ _ | (refine Below.setCell ?_ (by first | omega | (simp; done) | (simp; omega) | exact Below.size (by assumption) | exact Nat.le_trans (Below.size (by assumption)) (by simp)) _) | (refine Below.via' ?_ (by assumption)) | (refine Below.alloc ?_ (by first | omega | (simp; done) | (simp; omega) | exact Below.size (by assumption) | exact Nat.le_trans (Below.size (by assumption)) (by simp)) _) | (refine Below.via ?_ (by assumption) (by first | omega | (simp; done) | (simp; omega) | exact Below.size (by assumption) | exact Nat.le_trans (Below.size (by assumption)) (by simp))))))
  have B26 : Below w.heap.size w w26 := (by repeat (first | exact Below.refl _ _ | assumption | refine Below.drew ?_ | refine below_drewN ?_ _ | refine Below.alloc' ?_ _ | (refine Below.setCell ?_ (by first | omega | (simp; done) | (simp; omega) | exact Below.size (by assumption) | exact Nat.le_trans (Below.size (by assumption)) (by simp)) _) | (refine Below.via' ?_ (by assumption)) | (refine Below.alloc ?_ (by first | omega | (simp; done) | (simp; omega) | exact Below.size (by assumption) | exact Nat.le_trans (Below.size (by assumption)) (by simp)) _) | (refine Below.via ?_ (by assumption) (by first | omega | (simp; done) | (simp; omega) | exact Below.size (by assumption) | exact Nat.le_trans (Below.size (by assumption)) (by simp)))))
  go_wp2_with fail
  refine (markIntS_any _ _ _ _ _ _ _ (by omega) (by omega) hLl R_26.1).mono ?_
  rintro e w27 ⟨rfl, hmk27, hg27⟩
  have B27 := Below.mark B26 R_26 hg27 (by omega)
  have W_27 := W_26.keep hg27 (fun k hk => by have := R_26.2 k hk; omega)
  have R_27 := R_26.turn hmk27
  go_wp2_with fail
  refine (heldIntS_any _ _ _ _ _ (by omega) (by omega) hLl R_27.rd).mono ?_
  rintro e w28 ⟨rfl, rfl⟩
  go_wp2_with fail
  refine (toVariableS_any _ _ S _ hm (hS.out.below (by exact (by repeat (first | exact Below.refl _ _ | assumption | refine Below.drew ?_ | refine below_drewN ?_ _ | refine Below.alloc' ?_ _ | (refine Below.setCell ?_ (by first | omega | (simp; done) | (simp; omega) | exact Below.size (by assumption) | exact Nat.le_trans (Below.size (by assumption)) (by simp)) _) | (refine Below.via' ?_ (by assumption)) | (refine Below.alloc ?_ (by first | omega | (simp; done) | (simp; omega) | exact Below.size (by assumption) | exact Nat.le_trans (Below.size (by assumption)) (by simp)) _) | (refine Below.via ?_ (by assumption) (by first | omega | (simp; done) | (simp; omega) | exact Below.size (by assumption) | exact Nat.le_trans (Below.size (by assumption)) (by simp)))))))).mono ?_
  rintro e w28 ⟨rfl, ho28, hb28⟩
  have hi28 : Hid (SIn w28 (some ⟨w27.heap.size, 0, none⟩) S.length S) := ⟨hm, Nat.le_refl _, hn.out, Rd.of_own ho28⟩
  have hz28 := hb28.size; (try simp at hz28); (try (have hly28 := Nat.lt_of_succ_le hz28)); (try (have hlx28 := Nat.lt_of_succ_lt hly28)); (try (have hlw28 := Nat.lt_of_succ_lt hlx28)); (try (have hle28 := Nat.le_of_lt hly28))
  go_wp2_with fail
  refine (toEditS_any _ _ Q _ hmQ (fun q hq => ⟨by have := tot_mem hq; omega, (hQ.out.2.1 q hq).2.2.below (by exact (by repeat (first | exact Below.refl _ _ | assumption | refine Below.drew ?_ | refine below_drewN ?_ _ | refine Below.alloc' ?_ _ | (refine Below.setCell ?_ (by first | omega | (simp; done) | (simp; omega) | exact Below.size (by assumption) | exact Nat.le_trans (Below.size (by assumption)) (by simp)) _) | (refine Below.via' ?_ (by assumption)) | (refine Below.alloc ?_ (by first | omega | (simp; done) | (simp; omega) | exact Below.size (by assumption) | exact Nat.le_trans (Below.size (by assumption)) (by simp)) _) | (refine Below.via ?_ (by assumption) (by first | omega | (simp; done) | (simp; omega) | exact Below.size (by assumption) | exact Nat.le_trans (Below.size (by assumption)) (by simp))))))⟩) (hQ.out.2.2.below (by exact (by repeat (first | exact Below.refl _ _ | assumption | refine Below.drew ?_ | refine below_drewN ?_ _ | refine Below.alloc' ?_ _ | (refine Below.setCell ?_ (by first | omega | (simp; done) | (simp; omega) | exact Below.size (by assumption) | exact Nat.le_trans (Below.size (by assumption)) (by simp)) _) | (refine Below.via' ?_ (by assumption)) | (refine Below.alloc ?_ (by first | omega | (simp; done) | (simp; omega) | exact Below.size (by assumption) | exact Nat.le_trans (Below.size (by assumption)) (by simp)) _) | (refine Below.via ?_ (by assumption) (by first | omega | (simp; done) | (simp; omega) | exact Below.size (by assumption) | exact Nat.le_trans (Below.size (by assumption)) (by simp)))))))).mono ?_
  rintro e w29 ⟨T29, rfl, hpm29, ho29, hb29⟩
  have hi29 : Hid (EIn w29 (some ⟨w28.heap.size, 0, none⟩) T29) := Lib.hid (EIn.of_owE ho29 hpm29 hQ.out hmQ htQ)
  replace hpm29 := Lib.hid hpm29
  have hz29 := hb29.size; (try simp at hz29); (try (have hly29 := Nat.lt_of_succ_le hz29)); (try (have hlx29 := Nat.lt_of_succ_lt hly29)); (try (have hlw29 := Nat.lt_of_succ_lt hlx29)); (try (have hle29 := Nat.le_of_lt hly29))
  go_wp2_with fail
  refine (toIntS_any xG cG G _ hmG (hG.out.below (by exact (by repeat (first | exact Below.refl _ _ | assumption | refine Below.drew ?_ | refine below_drewN ?_ _ | refine Below.alloc' ?_ _ | (refine Below.setCell ?_ (by first | omega | (simp; done) | (simp; omega) | exact Below.size (by assumption) | exact Nat.le_trans (Below.size (by assumption)) (by simp)) _) | (refine Below.via' ?_ (by assumption)) | (refine Below.alloc ?_ (by first | omega | (simp; done) | (simp; omega) | exact Below.size (by assumption) | exact Nat.le_trans (Below.size (by assumption)) (by simp)) _) | (refine Below.via ?_ (by assumption) (by first | omega | (simp; done) | (simp; omega) | exact Below.size (by assumption) | exact Nat.le_trans (Below.size (by assumption)) (by simp)))))))).mono ?_
  rintro e w30 ⟨rfl, ho30, hb30⟩
  have hi30 : Hid (IIn w30 (some ⟨w29.heap.size, 0, none⟩) G) := ⟨hmG, hnG.out, Rd.of_own ho30⟩
  have hz30 := hb30.size; (try simp at hz30); (try (have hly30 := Nat.lt_of_succ_le hz30)); (try (have hlx30 := Nat.lt_of_succ_lt hly30)); (try (have hlw30 := Nat.lt_of_succ_lt hlx30)); (try (have hle30 := Nat.le_of_lt hly30))
  go_wp2_with fail
  refine (toIntS_any xV cV V _ hmV (hV.out.below (by exact (by repeat (first | exact Below.refl _ _ | assumption | refine Below.drew ?_ | refine below_drewN ?_ _ | refine Below.alloc' ?_ _ | (refine Below.setCell ?_ (by first | omega | (simp; done) | (simp; omega) | exact Below.size (by assumption) | exact Nat.le_trans (Below.size (by assumption)) (by simp)) _) | (refine Below.via' ?_ (by assumption)) | (refine Below.alloc ?_ (by first | omega | (simp; done) | (simp; omega) | exact Below.size (by assumption) | exact Nat.le_trans (Below.size (by assumption)) (by simp)) _) | (refine Below.via ?_ (by assumption) (by first | omega | (simp; done) | (simp; omega) | exact Below.size (by assumption) | exact Nat.le_trans (Below.size (by assumption)) (by simp)))))))).mono ?_
  rintro e w31 ⟨rfl, ho31, hb31⟩
  have hi31 : Hid (IIn w31 (some ⟨w30.heap.size, 0, none⟩) V) := ⟨hmV, hnV.out, Rd.of_own ho31⟩
  have hz31 := hb31.size; (try simp at hz31); (try (have hly31 := Nat.lt_of_succ_le hz31)); (try (have hlx31 := Nat.lt_of_succ_lt hly31)); (try (have hlw31 := Nat.lt_of_succ_lt hlx31)); (try (have hle31 := Nat.le_of_lt hly31))
  go_wp2_with fail
  refine (iPB_m _ _ _ _ _ _ _ _ S T29 G V _ (hi28.out.below (by exact (by repeat (first | exact Below.refl _ _ | assumption | refine Below.drew ?_ | refine below_drewN ?_ _ | refine Below.alloc' ?_ _ | (refine Below.setCell ?_ (by first | omega | (simp; done) | (simp; omega) | exact Below.size (by assumption) | exact Nat.le_trans (Below.size (by assumption)) (by simp)) _) | (refine Below.via' ?_ (by assumption)) | (refine Below.alloc ?_ (by first | omega | (simp; done) | (simp; omega) | exact Below.size (by assumption) | exact Nat.le_trans (Below.size (by assumption)) (by simp)) _) | (refine Below.via ?_ (by assumption) (by first | omega | (simp; done) | (simp; omega) | exact Below.size (by assumption) | exact Nat.le_trans (Below.size (by assumption)) (by simp))))))) (hi29.out.below (by exact (by repeat (first | exact Below.refl _ _ | assumption | refine Below.drew ?_ | refine below_drewN ?_ _ | refine Below.alloc' ?_ _ | (refine Below.setCell ?_ (by first | omega | (simp; done) | (simp; omega) | exact Below.size (by assumption) | exact Nat.le_trans (Below.size (by assumption)) (by simp)) _) | (refine Below.via' ?_ (by assumption)) | (refine Below.alloc ?_ (by first | omega | (simp; done) | (simp; omega) | exact Below.size (by assumption) | exact Nat.le_trans (Below.size (by assumption)) (by simp)) _) | (refine Below.via ?_ (by assumption) (by first | omega | (simp; done) | (simp; omega) | exact Below.size (by assumption) | exact Nat.le_trans (Below.size (by assumption)) (by simp))))))) (hi30.out.below (by exact (by repeat (first | exact Below.refl _ _ | assumption | refine Below.drew ?_ | refine below_drewN ?_ _ | refine Below.alloc' ?_ _ | (refine Below.setCell ?_ (by first | omega | (simp; done) | (simp; omega) | exact Below.size (by assumption) | exact Nat.le_trans (Below.size (by assumption)) (by simp)) _) | (refine Below.via' ?_ (by assumption)) | (refine Below.alloc ?_ (by first | omega | (simp; done) | (simp; omega) | exact Below.size (by assumption) | exact Nat.le_trans (Below.size (by assumption)) (by simp)) _) | (refine Below.via ?_ (by assumption) (by first | omega | (simp; done) | (simp; omega) | exact Below.size (by assumption) | exact Nat.le_trans (Below.size (by assumption)) (by simp))))))) (hi31.out.below (by exact (by repeat (first | exact Below.refl _ _ | assumption | refine Below.drew ?_ | refine below_drewN ?_ _ | refine Below.alloc' ?_ _ | (refine Below.setCell ?_ (by first | omega | (simp; done) | (simp; omega) | exact Below.size (by assumption) | exact Nat.le_trans (Below.size (by assumption)) (by simp)) _) | (refine Below.via' ?_ (by assumption)) | (refine Below.alloc ?_ (by first | omega | (simp; done) | (simp; omega) | exact Below.size (by assumption) | exact Nat.le_trans (Below.size (by assumption)) (by simp)) _) | (refine Below.via ?_ (by assumption) (by first | omega | (simp; done) | (simp; omega) | exact Below.size (by assumption) | exact Nat.le_trans (Below.size (by assumption)) (by simp))))))) (eM Q) (show eM T29 = eM Q from hpm29)).mono ?_
  rintro e w32 ⟨u32, rfl, ho32, hb32⟩
  have hz32 := hb32.size; (try simp at hz32); (try (have hly32 := Nat.lt_of_succ_le hz32)); (try (have hlx32 := Nat.lt_of_succ_lt hly32)); (try (have hlw32 := Nat.lt_of_succ_lt hlx32)); (try (have hle32 := Nat.le_of_lt hly32))
  rw [← hLL.out] at ho32
  have H := OwR.of ho32
  obtain ⟨xH, nH, rfl, -, -⟩ := H.form
  have R_32 := R_27.below (show Below w27.heap.size w27 w32 from (by repeat (first | exact Below.refl _ _ | assumption | refine Below.drew ?_ | refine below_drewN ?_ _ | refine Below.alloc' ?_ _ | (refine Below.setCell ?_ (by first | omega | (simp; done) | (simp; omega) | exact Below.size (by assumption) | exact Nat.le_trans (Below.size (by assumption)) (by simp)) _) | (refine Below.via' ?_ (by assumption)) | (refine Below.alloc ?_ (by first | omega | (simp; done) | (simp; omega) | exact Below.size (by assumption) | exact Nat.le_trans (Below.size (by assumption)) (by simp)) _) | (refine Below.via ?_ (by assumption) (by first | omega | (simp; done) | (simp; omega) | exact Below.size (by assumption) | exact Nat.le_trans (Below.size (by assumption)) (by simp))))))
  have W_32 := W_27.below (show Below w27.heap.size w27 w32 from (by repeat (first | exact Below.refl _ _ | assumption | refine Below.drew ?_ | refine below_drewN ?_ _ | refine Below.alloc' ?_ _ | (refine Below.setCell ?_ (by first | omega | (simp; done) | (simp; omega) | exact Below.size (by assumption) | exact Nat.le_trans (Below.size (by assumption)) (by simp)) _) | (refine Below.via' ?_ (by assumption)) | (refine Below.alloc ?_ (by first | omega | (simp; done) | (simp; omega) | exact Below.size (by assumption) | exact Nat.le_trans (Below.size (by assumption)) (by simp)) _) | (refine Below.via ?_ (by assumption) (by first | omega | (simp; done) | (simp; omega) | exact Below.size (by assumption) | exact Nat.le_trans (Below.size (by assumption)) (by simp))))))
  go_wp2_with fail
  refine (eqIntS_any _ _ _ _ LL _ (by omega) H.rd W_32.rd).mono ?_
  rintro e w33 ⟨rfl, hb33⟩
  have R_33 := R_32.below (show Below w32.heap.size w32 w33 from (by repeat (first | exact Below.refl _ _ | assumption | refine Below.drew ?_ | refine below_drewN ?_ _ | refine Below.alloc' ?_ _ | (refine Below.setCell ?_ (by first | omega | (simp; done) | (simp; omega) | exact Below.size (by assumption) | exact Nat.le_trans (Below.size (by assumption)) (by simp)) _) | (refine Below.via' ?_ (by assumption)) | (refine Below.alloc ?_ (by first | omega | (simp; done) | (simp; omega) | exact Below.size (by assumption) | exact Nat.le_trans (Below.size (by assumption)) (by simp)) _) | (refine Below.via ?_ (by assumption) (by first | omega | (simp; done) | (simp; omega) | exact Below.size (by assumption) | exact Nat.le_trans (Below.size (by assumption)) (by simp))))))
  go_wp2_with fail
  refine (heldIntS_any _ _ _ _ _ (by omega) (by omega) hLl R_33.rd).mono ?_
  rintro e w34 ⟨rfl, rfl⟩
  go_wp2
  go_ret
  exact ⟨rfl, (by repeat (first | exact Below.refl _ _ | assumption | refine Below.drew ?_ | refine below_drewN ?_ _ | refine Below.alloc' ?_ _ | (refine Below.setCell ?_ (by first | omega | (simp; done) | (simp; omega) | exact Below.size (by assumption) | exact Nat.le_trans (Below.size (by assumption)) (by simp)) _) | (refine Below.via' ?_ (by assumption)) | (refine Below.alloc ?_ (by first | omega | (simp; done) | (simp; omega) | exact Below.size (by assumption) | exact Nat.le_trans (Below.size (by assumption)) (by simp)) _) | (refine Below.via ?_ (by assumption) (by first | omega | (simp; done) | (simp; omega) | exact Below.size (by assumption) | exact Nat.le_trans (Below.size (by assumption)) (by simp)))))⟩

end Go.Proofs.Ytmcibcechffppaa
