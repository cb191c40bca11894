/-
  The walks of chapter 3: the model's sorted data.
-/
import Derived.Test.YtdakmdjcmjpogaaRecW
namespace Go.Proofs.Ytdakmdjcmjpogaa
open Go.RowKit
set_option maxRecDepth 100000

/-- Records that the model's function gives. -/
def SsP (R : List RV) (w : World) (e : Ending) (w' : World) : Prop :=
  ∃ x c T, e = .returned (.slice x (List.length (α := PR) T) c) ∧ pM T = R ∧ DRd w' w.heap.size w'.heap.size x T ∧ Below w.heap.size w w'

theorem RB.grown {w w' : World} {g : Nat} {a h : Int} {x : Option Addr} {n c : Nat} {r : Option Nat} (k : RB w g a h x n c) (hg : w.grownBy w' r) (hne : some g ≠ r) : RB w' g a h x n c := by
  have e := hg.block g k.2.2.2 hne
  exact ⟨(World.cell?_of_block (a := ⟨g, 0, none⟩) e).trans k.1, (World.cell?_of_block (a := ⟨g, 1, none⟩) e).trans k.2.1, (World.cell?_of_block (a := ⟨g, 2, none⟩) e).trans k.2.2.1, Nat.lt_of_lt_of_le k.2.2.2 hg.size⟩

set_option maxHeartbeats 8000000 in
theorem dSorted_any (x : Option Addr) (cap : Nat) (Q : List PR) (w : World) (hm : Q.length ≤ 1000) (hQ : DIn w x Q) (hc : ∀ q ∈ Q, RCap q) :
    Calls Try.prog 96 #[.slice x Q.length cap] w (SsP (srt (pM Q)) w) := by
  obtain ⟨i0, hi, hz0, hz1, hz2⟩ := info_parts Try.infoRec
  have hQh := Lib.hid hQ
  have hch := Lib.hid hc
  clear hQ hc
  go_enter Try.func96, Try.ntmps96
  go_wp2
  go_loopw [3, 9] (fun v c wr => ∃ (i : Nat) (T : List PR), i ≤ Q.length ∧ c = .int .i64 i ∧ T.length = i ∧ wr.ownsRow w.heap.size 36 3 v T.length (pC T) ∧ Hid (pM T = srt ((pM Q).take i)) ∧ Hid (InsW wr w.heap.size v T) ∧ Below w.heap.size w wr) (fun _ c _ => Q.length - (intOf c).toNat)
  case atStart => exact ⟨0, [], by omega, rfl, rfl, World.ownsRow_nil _ _ _ _, (by unfold Hid; exact srt_uniq (List.Perm.refl _) (by unfold isS pM; simp)), ⟨fun k hk => by (cases hk), fun q hq => by (cases hq)⟩, Below.refl _ _⟩
  case round =>
    obtain ⟨i, T, hi', rfl, hTl, hown, hTs, hins, hb⟩ := hrel
    subst hTl
    obtain ⟨wo, rfl⟩ : ∃ u : World, u = wr := ⟨_, rfl⟩
    have hbs := hb.size
    by_cases hlt : T.length < Q.length
    · obtain ⟨bl, off, q, rfl, hbl, hQi, hc0, hc1, hc2⟩ := (hQh.out.2.2.below hb).rec hlt
      have hqm := List.mem_of_getElem? hQi
      have hql := (hQh.out.2.1 q hqm).2.2.1
      have hqc := hch.out q hqm
      have hqr := Lib.hid ((hQh.out.2.1 q hqm).2.2.2.2)
      replace hQi := Lib.hid hQi
      have hlt' : (T.length : Int) < (Q.length : Int) := by omega
      have hi0' : (0 : Int) ≤ (T.length : Int) := by omega
      have hbox := Lib.hid (RB.new wo q.a q.h q.x q.L.length q.c 36)
      have hownh := Lib.hid hown
      clear hown
      have hform := Lib.hid (OwR.of hownh.out).form
      obtain ⟨vx, vc, rfl, -, -⟩ := hform.out
      go_wp2_with fail
      refine (rOwn_any _ _ _ _ q.L _ hql hqc.1 hqc.2 (hqr.out.below (by exact (by repeat (first | exact Below.refl _ _ | assumption | refine Below.drew ?_ | refine below_drewN ?_ _ | refine Below.alloc' ?_ _ | (refine Below.setCell ?_ (by first | omega | (simp; done) | (simp; omega) | exact Below.size (by assumption) | exact Nat.le_trans (Below.size (by assumption)) (by simp)) _) | (refine Below.via' ?_ (by assumption)) | (refine Below.alloc ?_ (by first | omega | (simp; done) | (simp; omega) | exact Below.size (by assumption) | exact Nat.le_trans (Below.size (by assumption)) (by simp)) _) | (refine Below.via ?_ (by assumption) (by first | omega | (simp; done) | (simp; omega) | exact Below.size (by assumption) | exact Nat.le_trans (Below.size (by assumption)) (by simp)))))))).mono ?_
      rintro e2 w2 ⟨x2, c2, rfl, ho2, hb2⟩
      have hbx2 : Below wo.heap.size wo w2 := (by repeat (first | exact Below.refl _ _ | assumption | refine Below.drew ?_ | refine below_drewN ?_ _ | refine Below.alloc' ?_ _ | (refine Below.setCell ?_ (by first | omega | (simp; done) | (simp; omega) | exact Below.size (by assumption) | exact Nat.le_trans (Below.size (by assumption)) (by simp)) _) | (refine Below.via' ?_ (by assumption)) | (refine Below.alloc ?_ (by first | omega | (simp; done) | (simp; omega) | exact Below.size (by assumption) | exact Nat.le_trans (Below.size (by assumption)) (by simp)) _) | (refine Below.via ?_ (by assumption) (by first | omega | (simp; done) | (simp; omega) | exact Below.size (by assumption) | exact Nat.le_trans (Below.size (by assumption)) (by simp)))))
      have hown2 := own_below hownh.out hbx2
      have hins2 := Lib.hid (hins.out.below hbx2)
      have hbox2 := Lib.hid (hbox.out.below hb2)
      have hz2' := hbx2.size
      have hz3' := hb2.size
      simp at hz3'
      have ho2h := Lib.hid ho2
      have hB2 : Below w.heap.size w w2 := (by repeat (first | exact Below.refl _ _ | assumption | refine Below.drew ?_ | refine below_drewN ?_ _ | refine Below.alloc' ?_ _ | (refine Below.setCell ?_ (by first | omega | (simp; done) | (simp; omega) | exact Below.size (by assumption) | exact Nat.le_trans (Below.size (by assumption)) (by simp)) _) | (refine Below.via' ?_ (by assumption)) | (refine Below.alloc ?_ (by first | omega | (simp; done) | (simp; omega) | exact Below.size (by assumption) | exact Nat.le_trans (Below.size (by assumption)) (by simp)) _) | (refine Below.via ?_ (by assumption) (by first | omega | (simp; done) | (simp; omega) | exact Below.size (by assumption) | exact Nat.le_trans (Below.size (by assumption)) (by simp)))))
      have hvl := Lib.hid (fun k hk => (hins.out.1 k hk).2)
      clear ho2 hownh hbox hb2 hbx2 hins
      go_wp2_with (at_builtin; go_loud (refine wpList_append_rd _ rfl (.tmp 15) (.tmp 18) 27 rfl w.heap.size 36 i0 (.agg #[.int .i64 0, .int .i64 0, .slice none 0 0]) 3 40 Try.underlying27 hi hz0 hz1 hz2 rfl (by decide) _ T.length (pC T) rfl (hown2.alloc _) _ 1 1 rfl (Nat.le_refl _) (by intro h; cases h) (pC [⟨q.a, q.h, x2, c2, q.L⟩]) rfl (Rd.oneR _ _ _ _ _ _ _) (pC_one _) (by unfold maxLen; omega) (by omega) (by simp; omega) ?_); intro v1 w3 hown3 hgrow3 hwhere3)
      have hh := append_below hB2 (fun k hk => (hins2.out.1 k hk).1) hgrow3 hwhere3
      have hown3' := Lib.hid (own_eq hown3 rfl (pC_app T [⟨q.a, q.h, x2, c2, q.L⟩]).symm)
      obtain ⟨g, vc3, rfl⟩ := own_some hown3 (by omega)
      have hins3 := Lib.hid ((hins2.out.below ((Below.refl _ _).alloc (Nat.le_refl _) (.cells #[.int .i64 q.a, .int .i64 q.h, .slice x2 q.L.length c2] 36))).row hgrow3 hwhere3 (fun k hk => by injection hk with hk; subst hk; exact (own_lt hown3).2) (by simp; omega))
      have hgb : g ≠ wo.heap.size := by
        rcases hwhere3 with e | e
        · have := hvl.out g (show (Value.slice vx T.length vc).ownBlock = some g from e.symm); omega
        · injection e with e; simp at e; omega
      have hbox3 := Lib.hid ((hbox2.out.below ((Below.refl _ _).alloc (Nat.le_refl _) (.cells #[.int .i64 q.a, .int .i64 q.h, .slice x2 q.L.length c2] 36))).grown hgrow3 (fun e => by have := hvl.out _ e.symm; omega))
      have hB3 := hh.1
      have hz33 := hgrow3.size
      simp at hz33
      clear hown3 hown2 hins2 hbox2 hgrow3 hwhere3 hh hvl ho2h hform hB2 hc0 hc1 hc2
      go_loopw [6] (fun c wi => ∃ (k : Nat) (ep : PR), k ≤ T.length ∧ c = .int .i64 k ∧ wi.ownsRow w.heap.size 36 3 (.slice (some ⟨g, 0, none⟩) (T.length + 1) vc3) (T.length + 1) (pC (T.take k ++ ep :: T.drop k)) ∧ Hid (InsW wi w.heap.size (.slice (some ⟨g, 0, none⟩) (T.length + 1) vc3) T) ∧ Hid (∀ p ∈ T.drop k, 0 < rcZ p.m (q.a, q.h, q.L)) ∧ Hid (RB wi wo.heap.size q.a q.h q.x q.L.length q.c) ∧ Below w.heap.size w wi) (fun c _ => (intOf c).toNat)
      case atStart => exact ⟨T.length, ⟨q.a, q.h, x2, c2, q.L⟩, by omega, rfl, by simpa using hown3'.out, hins3, (fun p hp => by simp at hp), hbox3, hB3⟩
      case round =>
        clear hown3' hins3 hbox3 hB3
        obtain ⟨k, ep, hk, rfl, hown3, hins, hgt, hbox3, hb3⟩ := hrel
        obtain ⟨wi, rfl⟩ : ∃ u : World, u = wr := ⟨_, rfl⟩
        have hbsi := hb3.size
        have hglt := (own_lt hown3).2
        have hql' := hql
        by_cases hk0 : k = 0
        · subst hk0
          go_wp2
          go_quiet (fail)
          have hwg : w.heap.size ≤ g := (hins.out.1 g rfl).1
          have hki : (((0) : Nat) : Int) < (T.length : Int) + 1 := by omega
          have hkj : (0 : Int) ≤ (((0) : Nat) : Int) := by omega
          have hkn : (((0) : Nat) : Int) ≤ (T.length : Int) := by omega
          have hkm : (((0) : Nat) : Int) < ((T.length + 1 : Nat) : Int) := by omega
          have hoh := Lib.hid hown3
          clear hown3
          have hsr := Lib.hid (ins_srt (q := ⟨q.a, q.h, q.x, q.c, q.L⟩) hTs.out hgt.out (Or.inl rfl))
          obtain ⟨ra, rb, rc, rd⟩ := hbox3.out
          go_wp2_with fail
          refine (rOwn_any _ _ _ _ q.L _ hql hqc.1 hqc.2 (hqr.out.below (by exact (by repeat (first | exact Below.refl _ _ | assumption | refine Below.drew ?_ | refine below_drewN ?_ _ | refine Below.alloc' ?_ _ | (refine Below.setCell ?_ (by first | omega | (simp; done) | (simp; omega) | exact Below.size (by assumption) | exact Nat.le_trans (Below.size (by assumption)) (by simp)) _) | (refine Below.via' ?_ (by assumption)) | (refine Below.alloc ?_ (by first | omega | (simp; done) | (simp; omega) | exact Below.size (by assumption) | exact Nat.le_trans (Below.size (by assumption)) (by simp)) _) | (refine Below.via ?_ (by assumption) (by first | omega | (simp; done) | (simp; omega) | exact Below.size (by assumption) | exact Nat.le_trans (Below.size (by assumption)) (by simp)))))))).mono ?_
          rintro e4 w4 ⟨x4, c4, rfl, ho4, hb4⟩
          have hbx : Below wi.heap.size wi w4 := (by repeat (first | exact Below.refl _ _ | assumption | refine Below.drew ?_ | refine below_drewN ?_ _ | refine Below.alloc' ?_ _ | (refine Below.setCell ?_ (by first | omega | (simp; done) | (simp; omega) | exact Below.size (by assumption) | exact Nat.le_trans (Below.size (by assumption)) (by simp)) _) | (refine Below.via' ?_ (by assumption)) | (refine Below.alloc ?_ (by first | omega | (simp; done) | (simp; omega) | exact Below.size (by assumption) | exact Nat.le_trans (Below.size (by assumption)) (by simp)) _) | (refine Below.via ?_ (by assumption) (by first | omega | (simp; done) | (simp; omega) | exact Below.size (by assumption) | exact Nat.le_trans (Below.size (by assumption)) (by simp)))))
          have hown4 := own_below hoh.out hbx
          obtain ⟨u0, hu0, k0⟩ := own_cell hown4 (j := (0) * 3) (by omega)
          obtain ⟨u1, hu1, k1⟩ := own_cell hown4 (j := (0) * 3 + 1) (by omega)
          obtain ⟨u2, hu2, k2⟩ := own_cell hown4 (j := (0) * 3 + 2) (by omega)
          have f0 := hown4.frozenAt ((0) * 3)
          have f1 := hown4.frozenAt ((0) * 3 + 1)
          have f2 := hown4.frozenAt ((0) * 3 + 2)
          have k4 := (own_lt hown4).2
          try simp only [Nat.zero_mul, Nat.zero_add] at k0 k1 k2 f0 f1 f2
          replace hu0 := Lib.hid hu0
          replace hu1 := Lib.hid hu1
          replace hu2 := Lib.hid hu2
          replace hown4 := Lib.hid hown4
          have ho4h := Lib.hid ho4
          clear ho4
          go_wp2
          go_roundw
          case rel =>
            have hzx := hbx.size
            have st0 := hown4.out.stored ((0) * 3) (.int .i64 q.a)
            have st1 := st0.1.stored ((0) * 3 + 1) (.int .i64 q.h)
            have st2 := st1.1.stored ((0) * 3 + 2) (PR.v ⟨q.a, q.h, x4, c4, q.L⟩)
            have hset := pC_set3 (T.take (0) ++ ep :: T.drop (0)) (0) ep ⟨q.a, q.h, x4, c4, q.L⟩ (ins_mid hk)
            rw [ins_set hk] at hset
            have hgr := (st0.2.trans st1.2).trans st2.2
            refine ⟨T.length + 1, T.take (0) ++ ⟨q.a, q.h, x4, c4, q.L⟩ :: T.drop (0), by omega, by go_num, by rw [ins_at hk], own_eq st2.1 (by rw [ins_at hk]) hset, ?_, ?_, ?_⟩
            · unfold Hid
              have e5 : pM (T.take (0) ++ ⟨q.a, q.h, x4, c4, q.L⟩ :: T.drop (0)) = pM (T.take (0) ++ ⟨q.a, q.h, q.x, q.c, q.L⟩ :: T.drop (0)) := by unfold pM; simp [PR.m]
              rw [e5, hsr.out, take_snoc (pM_at hQi.out)]
            · have hI := (((hins.out.below hbx).snoc (q := ⟨q.a, q.h, x4, c4, q.L⟩) ho4h.out.rd hql (fun b off e => by
                  have h1 : wi.heap.size ≤ b ∧ b < w4.heap.size := ho4h.out.inr b off e
                  refine ⟨by omega, h1.2, ?_⟩
                  intro e2
                  have e3 : g = b := Option.some.inj e2
                  have h5 := (own_lt hoh.out).2
                  omega)).row hgr (Or.inl rfl) (fun k hk => by injection hk with hk; subst hk; have := (own_lt st2.1).2; exact this) (by omega))
              refine Lib.hid (hI.sub fun p hp => ?_)
              rw [List.mem_append, List.mem_cons] at hp
              rw [List.mem_append, List.mem_singleton]
              rcases hp with hp | hp | hp
              · exact Or.inl (List.mem_of_mem_take hp)
              · exact Or.inr hp
              · exact Or.inl (List.mem_of_mem_drop hp)
            · exact (by repeat (first | exact Below.refl _ _ | assumption | refine Below.drew ?_ | refine below_drewN ?_ _ | refine Below.alloc' ?_ _ | (refine Below.setCell ?_ (by first | omega | (simp; done) | (simp; omega) | exact Below.size (by assumption) | exact Nat.le_trans (Below.size (by assumption)) (by simp)) _) | (refine Below.via' ?_ (by assumption)) | (refine Below.alloc ?_ (by first | omega | (simp; done) | (simp; omega) | exact Below.size (by assumption) | exact Nat.le_trans (Below.size (by assumption)) (by simp)) _) | (refine Below.via ?_ (by assumption) (by first | omega | (simp; done) | (simp; omega) | exact Below.size (by assumption) | exact Nat.le_trans (Below.size (by assumption)) (by simp)))))
          case measure => simp [intOf]; omega
        · obtain ⟨k', rfl⟩ : ∃ k', k = k' + 1 := ⟨k - 1, by omega⟩
          have hkl : k' < T.length := by omega
          obtain ⟨p, hTp⟩ : ∃ p, T[k']? = some p := ⟨T[k'], List.getElem?_eq_getElem hkl⟩
          have hZp := (ins_get (e := ep) hk (Nat.lt_succ_self k')).trans hTp
          obtain ⟨hpr, hpl, -⟩ := hins.out.2 p (List.mem_of_getElem? hTp)
          have hprh := Lib.hid hpr
          obtain ⟨a0, ha0, q0⟩ := own_cell hown3 (j := k' * 3) (by omega)
          obtain ⟨a1, ha1, q1⟩ := own_cell hown3 (j := k' * 3 + 1) (by omega)
          obtain ⟨a2, ha2, q2⟩ := own_cell hown3 (j := k' * 3 + 2) (by omega)
          obtain rfl : a0 = .int .i64 p.a := Option.some.inj (ha0.symm.trans (pC_at0 hZp))
          obtain rfl : a1 = .int .i64 p.h := Option.some.inj (ha1.symm.trans (pC_at1 hZp))
          obtain rfl : a2 = .slice p.x p.L.length p.c := Option.some.inj (ha2.symm.trans (pC_at2 hZp))
          clear ha0 ha1 ha2 hpr
          replace hTp := Lib.hid hTp
          replace hZp := Lib.hid hZp
          obtain ⟨ra, rb, rc, rd⟩ := hbox3.out
          have hown3h := Lib.hid hown3
          clear hown3
          have hk1 : (0 : Int) < ((k' + 1 : Nat) : Int) := by omega
          have hk2 : ((k' : Nat) : Int) < (T.length : Int) + 1 := by omega
          have hk3 : (0 : Int) ≤ (k' : Int) := by omega
          have hk5 : (k' : Int) ≤ (T.length : Int) := by omega
          have hk6 : ((k' : Nat) : Int) < ((T.length + 1 : Nat) : Int) := by omega
          have hw2 : IntKind.i64.wrap (k' : Int) = (k' : Int) := IntWalk.i64_in _ (by omega)
          have hw3 : IntKind.i64.wrap (((k' + 1 : Nat) : Int) - 1) = (k' : Int) := by rw [show ((k' + 1 : Nat) : Int) - 1 = k' by omega]; exact hw2
          have hw1 : IntKind.i64.wrap ((k' : Int) + 1 - 1) = (k' : Int) := by rw [show (k' : Int) + 1 - 1 = k' by omega]; exact IntWalk.i64_in _ (by omega)
          by_cases hcmp : 0 < rcZ (p.a, p.h, p.L) (q.a, q.h, q.L)
          · skip
            go_wp2
            go_region_held3 (fun w' => Below (wi).heap.size (wi) w' ∧ (∀ b o, b < (wi).heap.size → w'.cell? ⟨b, o, none⟩ = (wi).cell? ⟨b, o, none⟩)) (first | exact keep_of (Below.refl _ _) | ((try go_split_ands); exact keep_of (by repeat (first | exact Below.refl _ _ | assumption | refine Below.drew ?_ | refine below_drewN ?_ _ | refine Below.alloc' ?_ _ | (refine Below.setCell ?_ (by first | omega | (simp; done) | (simp; omega) | exact Below.size (by assumption) | exact Nat.le_trans (Below.size (by assumption)) (by simp)) _) | (refine Below.via' ?_ (by assumption)) | (refine Below.alloc ?_ (by first | omega | (simp; done) | (simp; omega) | exact Below.size (by assumption) | exact Nat.le_trans (Below.size (by assumption)) (by simp)) _) | (refine Below.via ?_ (by assumption) (by first | omega | (simp; done) | (simp; omega) | exact Below.size (by assumption) | exact Nat.le_trans (Below.size (by assumption)) (by simp))))))) (first | (go_at_call 92; refine (rCompare_any _ _ _ _ p.a p.h q.a q.h p.L q.L _ hpl hql (hprh.out.below (by exact (by repeat (first | exact Below.refl _ _ | assumption | refine Below.drew ?_ | refine below_drewN ?_ _ | refine Below.alloc' ?_ _ | (refine Below.setCell ?_ (by first | omega | (simp; done) | (simp; omega) | exact Below.size (by assumption) | exact Nat.le_trans (Below.size (by assumption)) (by simp)) _) | (refine Below.via' ?_ (by assumption)) | (refine Below.alloc ?_ (by first | omega | (simp; done) | (simp; omega) | exact Below.size (by assumption) | exact Nat.le_trans (Below.size (by assumption)) (by simp)) _) | (refine Below.via ?_ (by assumption) (by first | omega | (simp; done) | (simp; omega) | exact Below.size (by assumption) | exact Nat.le_trans (Below.size (by assumption)) (by simp))))))) (hqr.out.below (by exact (by repeat (first | exact Below.refl _ _ | assumption | refine Below.drew ?_ | refine below_drewN ?_ _ | refine Below.alloc' ?_ _ | (refine Below.setCell ?_ (by first | omega | (simp; done) | (simp; omega) | exact Below.size (by assumption) | exact Nat.le_trans (Below.size (by assumption)) (by simp)) _) | (refine Below.via' ?_ (by assumption)) | (refine Below.alloc ?_ (by first | omega | (simp; done) | (simp; omega) | exact Below.size (by assumption) | exact Nat.le_trans (Below.size (by assumption)) (by simp)) _) | (refine Below.via ?_ (by assumption) (by first | omega | (simp; done) | (simp; omega) | exact Below.size (by assumption) | exact Nat.le_trans (Below.size (by assumption)) (by simp)))))))).mono ?_; rintro e5 w5 ⟨rfl, hb5⟩)); rename_i hH; obtain ⟨hb5, hcl5⟩ := hH; have hz5 := hb5.size; (try simp at hz5); (try (have hly5 := Nat.lt_of_succ_le hz5)); (try (have hlx5 := Nat.lt_of_succ_lt hly5)); (try (have hlw5 := Nat.lt_of_succ_lt hlx5)); (try (have hle5 := Nat.le_of_lt hly5)); (try (have hya5 : w.heap.size < w5.heap.size := by omega)); (try (have hyb5 : w.heap.size + 1 < w5.heap.size := by omega)); (try (have hyc5 : w.heap.size + 1 + 1 < w5.heap.size := by omega)); (try (have hyd5 : wa.heap.size < w5.heap.size := by omega))
            have hbx5 : Below wi.heap.size wi w5 := (by repeat (first | exact Below.refl _ _ | assumption | refine Below.drew ?_ | refine below_drewN ?_ _ | refine Below.alloc' ?_ _ | (refine Below.setCell ?_ (by first | omega | (simp; done) | (simp; omega) | exact Below.size (by assumption) | exact Nat.le_trans (Below.size (by assumption)) (by simp)) _) | (refine Below.via' ?_ (by assumption)) | (refine Below.alloc ?_ (by first | omega | (simp; done) | (simp; omega) | exact Below.size (by assumption) | exact Nat.le_trans (Below.size (by assumption)) (by simp)) _) | (refine Below.via ?_ (by assumption) (by first | omega | (simp; done) | (simp; omega) | exact Below.size (by assumption) | exact Nat.le_trans (Below.size (by assumption)) (by simp)))))
            have hown5 := own_below hown3h.out hbx5
            have hins5 := Lib.hid (hins.out.below hbx5)
            have hbox5 := Lib.hid (hbox3.out.below hbx5)
            obtain ⟨ra5, rb5, rc5, rd5⟩ := hbox5.out
            have B5 : Below w.heap.size w w5 := (by repeat (first | exact Below.refl _ _ | assumption | refine Below.drew ?_ | refine below_drewN ?_ _ | refine Below.alloc' ?_ _ | (refine Below.setCell ?_ (by first | omega | (simp; done) | (simp; omega) | exact Below.size (by assumption) | exact Nat.le_trans (Below.size (by assumption)) (by simp)) _) | (refine Below.via' ?_ (by assumption)) | (refine Below.alloc ?_ (by first | omega | (simp; done) | (simp; omega) | exact Below.size (by assumption) | exact Nat.le_trans (Below.size (by assumption)) (by simp)) _) | (refine Below.via ?_ (by assumption) (by first | omega | (simp; done) | (simp; omega) | exact Below.size (by assumption) | exact Nat.le_trans (Below.size (by assumption)) (by simp)))))
            obtain ⟨b0, hb0, r0⟩ := own_cell hown5 (j := k' * 3) (by omega)
            obtain ⟨b1, hb1, r1⟩ := own_cell hown5 (j := k' * 3 + 1) (by omega)
            obtain ⟨b2, hb2, r2⟩ := own_cell hown5 (j := k' * 3 + 2) (by omega)
            obtain rfl : b0 = .int .i64 p.a := Option.some.inj (hb0.symm.trans (pC_at0 hZp.out))
            obtain rfl : b1 = .int .i64 p.h := Option.some.inj (hb1.symm.trans (pC_at1 hZp.out))
            obtain rfl : b2 = .slice p.x p.L.length p.c := Option.some.inj (hb2.symm.trans (pC_at2 hZp.out))
            obtain ⟨d0, hd0, s0⟩ := own_cell hown5 (j := (k' + 1) * 3) (by omega)
            obtain ⟨d1, hd1, s1⟩ := own_cell hown5 (j := (k' + 1) * 3 + 1) (by omega)
            obtain ⟨d2, hd2, s2⟩ := own_cell hown5 (j := (k' + 1) * 3 + 2) (by omega)
            have f0 := hown5.frozenAt ((k' + 1) * 3)
            have f1 := hown5.frozenAt ((k' + 1) * 3 + 1)
            have f2 := hown5.frozenAt ((k' + 1) * 3 + 2)
            have k4 := (own_lt hown5).2
            have st0 := hown5.stored ((k' + 1) * 3) (.int .i64 p.a)
            have st1 := st0.1.stored ((k' + 1) * 3 + 1) (.int .i64 p.h)
            have st2 := st1.1.stored ((k' + 1) * 3 + 2) p.v
            have hset := pC_set3 (T.take (k' + 1) ++ ep :: T.drop (k' + 1)) (k' + 1) ep p (ins_mid hk)
            rw [ins_set hk, ins_shift hkl hTp.out] at hset
            have hgr := Lib.hid ((st0.2.trans st1.2).trans st2.2)
            have hnew := Lib.hid (own_eq st2.1 rfl hset)
            have hnl := Lib.hid (own_lt st2.1).2
            have hin6 := Lib.hid (hins5.out.row hgr.out (Or.inl rfl) (fun k hk => by injection hk with hk; subst hk; exact hnl.out) (by have := hins5.out.1 g rfl; omega))
            have hbox6 := Lib.hid (hbox5.out.grown hgr.out (fun e => by injection e with e; exact hgb e.symm))
            have hwg : w.heap.size ≤ g := (hins5.out.1 g rfl).1
            have hki : (k' : Int) + 1 < (T.length : Int) + 1 := by omega
            have hkj : (0 : Int) ≤ (k' : Int) + 1 := by omega
            have hkn : (k' : Int) + 1 ≤ (T.length : Int) := by omega
            have hkn2 : (k' : Int) < (T.length : Int) := by omega
            have hkm : ((k' + 1 : Nat) : Int) < ((T.length + 1 : Nat) : Int) := by omega
            clear hb0 hb1 hb2 hd0 hd1 hd2 st0 st1 st2 hset hbox5 hins5 hbx5 hown3h hbox3 hins ra rb rc rd q0 q1 q2 hcl5
            go_wp2
            go_roundw
            case rel =>
              refine ⟨k', p, by omega, by go_num, hnew.out, hin6, ?_, hbox6, (by repeat (first | exact Below.refl _ _ | assumption | refine Below.drew ?_ | refine below_drewN ?_ _ | refine Below.alloc' ?_ _ | (refine Below.setCell ?_ (by first | omega | (simp; done) | (simp; omega) | exact Below.size (by assumption) | exact Nat.le_trans (Below.size (by assumption)) (by simp)) _) | (refine Below.via' ?_ (by assumption)) | (refine Below.alloc ?_ (by first | omega | (simp; done) | (simp; omega) | exact Below.size (by assumption) | exact Nat.le_trans (Below.size (by assumption)) (by simp)) _) | (refine Below.via ?_ (by assumption) (by first | omega | (simp; done) | (simp; omega) | exact Below.size (by assumption) | exact Nat.le_trans (Below.size (by assumption)) (by simp)))))⟩
              unfold Hid
              intro u hu
              rw [List.drop_eq_getElem_cons hkl, List.mem_cons] at hu
              rcases hu with hu | hu
              · have := (List.getElem?_eq_some_iff.1 hTp.out).2
                rw [hu, this]
                exact hcmp
              · exact hgt.out u hu
            case measure => simp [intOf]
          · have hcm2 : Hid (¬ 0 < rcZ p.m (q.a, q.h, q.L)) := hcmp
            go_wp2
            go_region_held3 (fun w' => Below (wi).heap.size (wi) w' ∧ (∀ b o, b < (wi).heap.size → w'.cell? ⟨b, o, none⟩ = (wi).cell? ⟨b, o, none⟩)) (first | exact keep_of (Below.refl _ _) | ((try go_split_ands); exact keep_of (by repeat (first | exact Below.refl _ _ | assumption | refine Below.drew ?_ | refine below_drewN ?_ _ | refine Below.alloc' ?_ _ | (refine Below.setCell ?_ (by first | omega | (simp; done) | (simp; omega) | exact Below.size (by assumption) | exact Nat.le_trans (Below.size (by assumption)) (by simp)) _) | (refine Below.via' ?_ (by assumption)) | (refine Below.alloc ?_ (by first | omega | (simp; done) | (simp; omega) | exact Below.size (by assumption) | exact Nat.le_trans (Below.size (by assumption)) (by simp)) _) | (refine Below.via ?_ (by assumption) (by first | omega | (simp; done) | (simp; omega) | exact Below.size (by assumption) | exact Nat.le_trans (Below.size (by assumption)) (by simp))))))) (first | (go_at_call 92; refine (rCompare_any _ _ _ _ p.a p.h q.a q.h p.L q.L _ hpl hql (hprh.out.below (by exact (by repeat (first | exact Below.refl _ _ | assumption | refine Below.drew ?_ | refine below_drewN ?_ _ | refine Below.alloc' ?_ _ | (refine Below.setCell ?_ (by first | omega | (simp; done) | (simp; omega) | exact Below.size (by assumption) | exact Nat.le_trans (Below.size (by assumption)) (by simp)) _) | (refine Below.via' ?_ (by assumption)) | (refine Below.alloc ?_ (by first | omega | (simp; done) | (simp; omega) | exact Below.size (by assumption) | exact Nat.le_trans (Below.size (by assumption)) (by simp)) _) | (refine Below.via ?_ (by assumption) (by first | omega | (simp; done) | (simp; omega) | exact Below.size (by assumption) | exact Nat.le_trans (Below.size (by assumption)) (by simp))))))) (hqr.out.below (by exact (by repeat (first | exact Below.refl _ _ | assumption | refine Below.drew ?_ | refine below_drewN ?_ _ | refine Below.alloc' ?_ _ | (refine Below.setCell ?_ (by first | omega | (simp; done) | (simp; omega) | exact Below.size (by assumption) | exact Nat.le_trans (Below.size (by assumption)) (by simp)) _) | (refine Below.via' ?_ (by assumption)) | (refine Below.alloc ?_ (by first | omega | (simp; done) | (simp; omega) | exact Below.size (by assumption) | exact Nat.le_trans (Below.size (by assumption)) (by simp)) _) | (refine Below.via ?_ (by assumption) (by first | omega | (simp; done) | (simp; omega) | exact Below.size (by assumption) | exact Nat.le_trans (Below.size (by assumption)) (by simp)))))))).mono ?_; rintro e5 w5 ⟨rfl, hb5⟩)); rename_i hH; obtain ⟨hb5, hcl5⟩ := hH; have hz5 := hb5.size; (try simp at hz5); (try (have hly5 := Nat.lt_of_succ_le hz5)); (try (have hlx5 := Nat.lt_of_succ_lt hly5)); (try (have hlw5 := Nat.lt_of_succ_lt hlx5)); (try (have hle5 := Nat.le_of_lt hly5)); (try (have hya5 : w.heap.size < w5.heap.size := by omega)); (try (have hyb5 : w.heap.size + 1 < w5.heap.size := by omega)); (try (have hyc5 : w.heap.size + 1 + 1 < w5.heap.size := by omega)); (try (have hyd5 : wa.heap.size < w5.heap.size := by omega))
            have hbx5 : Below wi.heap.size wi w5 := (by repeat (first | exact Below.refl _ _ | assumption | refine Below.drew ?_ | refine below_drewN ?_ _ | refine Below.alloc' ?_ _ | (refine Below.setCell ?_ (by first | omega | (simp; done) | (simp; omega) | exact Below.size (by assumption) | exact Nat.le_trans (Below.size (by assumption)) (by simp)) _) | (refine Below.via' ?_ (by assumption)) | (refine Below.alloc ?_ (by first | omega | (simp; done) | (simp; omega) | exact Below.size (by assumption) | exact Nat.le_trans (Below.size (by assumption)) (by simp)) _) | (refine Below.via ?_ (by assumption) (by first | omega | (simp; done) | (simp; omega) | exact Below.size (by assumption) | exact Nat.le_trans (Below.size (by assumption)) (by simp)))))
            have hown3 := own_below hown3h.out hbx5
            replace hins := Lib.hid (hins.out.below hbx5)
            replace hbox3 := Lib.hid (hbox3.out.below hbx5)
            have B5 : Below w.heap.size w w5 := (by repeat (first | exact Below.refl _ _ | assumption | refine Below.drew ?_ | refine below_drewN ?_ _ | refine Below.alloc' ?_ _ | (refine Below.setCell ?_ (by first | omega | (simp; done) | (simp; omega) | exact Below.size (by assumption) | exact Nat.le_trans (Below.size (by assumption)) (by simp)) _) | (refine Below.via' ?_ (by assumption)) | (refine Below.alloc ?_ (by first | omega | (simp; done) | (simp; omega) | exact Below.size (by assumption) | exact Nat.le_trans (Below.size (by assumption)) (by simp)) _) | (refine Below.via ?_ (by assumption) (by first | omega | (simp; done) | (simp; omega) | exact Below.size (by assumption) | exact Nat.le_trans (Below.size (by assumption)) (by simp)))))
            clear hown3h ra rb rc rd q0 q1 q2 hcl5
            obtain ⟨wi, rfl⟩ : ∃ u : World, u = w5 := ⟨_, rfl⟩
            have hbsi := B5.size
            have hwg : w.heap.size ≤ g := (hins.out.1 g rfl).1
            have hki : (((k' + 1) : Nat) : Int) < (T.length : Int) + 1 := by omega
            have hkj : (0 : Int) ≤ (((k' + 1) : Nat) : Int) := by omega
            have hkn : (((k' + 1) : Nat) : Int) ≤ (T.length : Int) := by omega
            have hkm : (((k' + 1) : Nat) : Int) < ((T.length + 1 : Nat) : Int) := by omega
            have hoh := Lib.hid hown3
            clear hown3
            have hsr := Lib.hid (ins_srt (q := ⟨q.a, q.h, q.x, q.c, q.L⟩) hTs.out hgt.out (Or.inr ⟨p, hTp.out, (show ¬ 0 < rcZ p.m (q.a, q.h, q.L) from by have := hcm2.out; omega)⟩))
            obtain ⟨ra, rb, rc, rd⟩ := hbox3.out
            go_wp2_with fail
            refine (rOwn_any _ _ _ _ q.L _ hql hqc.1 hqc.2 (hqr.out.below (by exact (by repeat (first | exact Below.refl _ _ | assumption | refine Below.drew ?_ | refine below_drewN ?_ _ | refine Below.alloc' ?_ _ | (refine Below.setCell ?_ (by first | omega | (simp; done) | (simp; omega) | exact Below.size (by assumption) | exact Nat.le_trans (Below.size (by assumption)) (by simp)) _) | (refine Below.via' ?_ (by assumption)) | (refine Below.alloc ?_ (by first | omega | (simp; done) | (simp; omega) | exact Below.size (by assumption) | exact Nat.le_trans (Below.size (by assumption)) (by simp)) _) | (refine Below.via ?_ (by assumption) (by first | omega | (simp; done) | (simp; omega) | exact Below.size (by assumption) | exact Nat.le_trans (Below.size (by assumption)) (by simp)))))))).mono ?_
            rintro e4 w4 ⟨x4, c4, rfl, ho4, hb4⟩
            have hbx : Below wi.heap.size wi w4 := (by repeat (first | exact Below.refl _ _ | assumption | refine Below.drew ?_ | refine below_drewN ?_ _ | refine Below.alloc' ?_ _ | (refine Below.setCell ?_ (by first | omega | (simp; done) | (simp; omega) | exact Below.size (by assumption) | exact Nat.le_trans (Below.size (by assumption)) (by simp)) _) | (refine Below.via' ?_ (by assumption)) | (refine Below.alloc ?_ (by first | omega | (simp; done) | (simp; omega) | exact Below.size (by assumption) | exact Nat.le_trans (Below.size (by assumption)) (by simp)) _) | (refine Below.via ?_ (by assumption) (by first | omega | (simp; done) | (simp; omega) | exact Below.size (by assumption) | exact Nat.le_trans (Below.size (by assumption)) (by simp)))))
            have hown4 := own_below hoh.out hbx
            obtain ⟨u0, hu0, k0⟩ := own_cell hown4 (j := (k' + 1) * 3) (by omega)
            obtain ⟨u1, hu1, k1⟩ := own_cell hown4 (j := (k' + 1) * 3 + 1) (by omega)
            obtain ⟨u2, hu2, k2⟩ := own_cell hown4 (j := (k' + 1) * 3 + 2) (by omega)
            have f0 := hown4.frozenAt ((k' + 1) * 3)
            have f1 := hown4.frozenAt ((k' + 1) * 3 + 1)
            have f2 := hown4.frozenAt ((k' + 1) * 3 + 2)
            have k4 := (own_lt hown4).2
            try simp only [Nat.zero_mul, Nat.zero_add] at k0 k1 k2 f0 f1 f2
            replace hu0 := Lib.hid hu0
            replace hu1 := Lib.hid hu1
            replace hu2 := Lib.hid hu2
            replace hown4 := Lib.hid hown4
            have ho4h := Lib.hid ho4
            clear ho4
            go_wp2
            go_roundw
            case rel =>
              have hzx := hbx.size
              have st0 := hown4.out.stored ((k' + 1) * 3) (.int .i64 q.a)
              have st1 := st0.1.stored ((k' + 1) * 3 + 1) (.int .i64 q.h)
              have st2 := st1.1.stored ((k' + 1) * 3 + 2) (PR.v ⟨q.a, q.h, x4, c4, q.L⟩)
              have hset := pC_set3 (T.take (k' + 1) ++ ep :: T.drop (k' + 1)) (k' + 1) ep ⟨q.a, q.h, x4, c4, q.L⟩ (ins_mid hk)
              rw [ins_set hk] at hset
              have hgr := (st0.2.trans st1.2).trans st2.2
              refine ⟨T.length + 1, T.take (k' + 1) ++ ⟨q.a, q.h, x4, c4, q.L⟩ :: T.drop (k' + 1), by omega, by go_num, by rw [ins_at hk], own_eq st2.1 (by rw [ins_at hk]) hset, ?_, ?_, ?_⟩
              · unfold Hid
                have e5 : pM (T.take (k' + 1) ++ ⟨q.a, q.h, x4, c4, q.L⟩ :: T.drop (k' + 1)) = pM (T.take (k' + 1) ++ ⟨q.a, q.h, q.x, q.c, q.L⟩ :: T.drop (k' + 1)) := by unfold pM; simp [PR.m]
                rw [e5, hsr.out, take_snoc (pM_at hQi.out)]
              · have hI := (((hins.out.below hbx).snoc (q := ⟨q.a, q.h, x4, c4, q.L⟩) ho4h.out.rd hql (fun b off e => by
                    have h1 : wi.heap.size ≤ b ∧ b < w4.heap.size := ho4h.out.inr b off e
                    refine ⟨by omega, h1.2, ?_⟩
                    intro e2
                    have e3 : g = b := Option.some.inj e2
                    have h5 := (own_lt hoh.out).2
                    omega)).row hgr (Or.inl rfl) (fun k hk => by injection hk with hk; subst hk; have := (own_lt st2.1).2; exact this) (by omega))
                refine Lib.hid (hI.sub fun p hp => ?_)
                rw [List.mem_append, List.mem_cons] at hp
                rw [List.mem_append, List.mem_singleton]
                rcases hp with hp | hp | hp
                · exact Or.inl (List.mem_of_mem_take hp)
                · exact Or.inr hp
                · exact Or.inl (List.mem_of_mem_drop hp)
              · exact (by repeat (first | exact Below.refl _ _ | assumption | refine Below.drew ?_ | refine below_drewN ?_ _ | refine Below.alloc' ?_ _ | (refine Below.setCell ?_ (by first | omega | (simp; done) | (simp; omega) | exact Below.size (by assumption) | exact Nat.le_trans (Below.size (by assumption)) (by simp)) _) | (refine Below.via' ?_ (by assumption)) | (refine Below.alloc ?_ (by first | omega | (simp; done) | (simp; omega) | exact Below.size (by assumption) | exact Nat.le_trans (Below.size (by assumption)) (by simp)) _) | (refine Below.via ?_ (by assumption) (by first | omega | (simp; done) | (simp; omega) | exact Below.size (by assumption) | exact Nat.le_trans (Below.size (by assumption)) (by simp)))))
            case measure => simp [intOf]; omega
    · have hij : T.length = Q.length := by omega
      have hres := Lib.hid (show SsP (srt (pM Q)) w (.returned (.slice none 0 0)) wo → True from fun _ => trivial)
      obtain ⟨vx, vc, rfl, -, -⟩ := (OwR.of hown).form
      have hfin := Lib.hid (show SsP (srt (pM Q)) w (.returned (.slice vx T.length vc)) wo from ⟨vx, vc, T, rfl, by rw [hTs.out, hij, ← pM_len Q, List.take_length], hins.out.drd hown, hb⟩)
      have hn' : ¬ (T.length : Int) < (Q.length : Int) := by omega
      clear hown hTs hins hres hij hlt
      go_wp2
      go_ret
      exact hfin.out
end Go.Proofs.Ytdakmdjcmjpogaa
