/-
  The model's draws of chapter 3: records, data; and the laws' own comparisons.
-/
import Derived.Test.YtelnbjhnjcbjoaaDrwG
import Derived.Test.YtelnbjhnjcbjoaaRecC
import Derived.Test.YtelnbjhnjcbjoaaRecD
namespace Go.Proofs.Ytelnbjhnjcbjoaa
open Go.RowKit
set_option maxRecDepth 100000

theorem IRd.grown {w w' : World} {c b : Nat} {L : List Int} (h : IRd w (some ⟨c, 0, none⟩) L) (hg : w.grownBy w' (some b)) (hcb : c ≠ b) : IRd w' (some ⟨c, 0, none⟩) L := by
  obtain ⟨c', off, e, hc, hr⟩ := h
  injection e with e
  injection e with e1 e2
  subst e1 e2
  exact ⟨c, 0, rfl, Nat.lt_of_lt_of_le hc hg.size, fun i v hv => (World.cell?_of_block (hg.block c hc (fun q => hcb (by injection q)))).trans (hr i v hv)⟩
set_option maxHeartbeats 1000000 in
theorem qRecord_any (a h : Int) (x y : Option Addr) (c1 c2 : Nat) (G : List Int) (w : World) (hm : G.length ≤ 1048576) (hx : Rd w x (iC G)) (hy : Rd w y (iC G)) :
    Calls Try.prog 22 #[.agg #[.int .i64 a, .int .i64 h, .slice x G.length c1], .agg #[.int .i64 a, .int .i64 h, .slice y G.length c2]] w fun e w' => e = .returned (.bool true) ∧ Below w.heap.size w w' := by
  have hxh := Lib.hid hx
  have hyh := Lib.hid hy
  clear hx hy
  go_enter Try.func22, Try.ntmps22
  go_wp2_with (go_at_call 82; refine (qInts_any _ _ _ _ _ _ hm (hxh.out.below (by exact (by repeat (first | exact Below.refl _ _ | assumption | refine Below.drew ?_ | refine below_drewN ?_ _ | refine Below.alloc' ?_ _ | (refine Below.setCell ?_ (by first | omega | (simp; done) | (simp; omega) | exact Below.size (by assumption) | exact Nat.le_trans (Below.size (by assumption)) (by simp)) _) | (refine Below.via' ?_ (by assumption)) | (refine Below.alloc ?_ (by first | omega | (simp; done) | (simp; omega) | exact Below.size (by assumption) | exact Nat.le_trans (Below.size (by assumption)) (by simp)) _) | (refine Below.via ?_ (by assumption) (by first | omega | (simp; done) | (simp; omega) | exact Below.size (by assumption) | exact Nat.le_trans (Below.size (by assumption)) (by simp))))))) (hyh.out.below (by exact (by repeat (first | exact Below.refl _ _ | assumption | refine Below.drew ?_ | refine below_drewN ?_ _ | refine Below.alloc' ?_ _ | (refine Below.setCell ?_ (by first | omega | (simp; done) | (simp; omega) | exact Below.size (by assumption) | exact Nat.le_trans (Below.size (by assumption)) (by simp)) _) | (refine Below.via' ?_ (by assumption)) | (refine Below.alloc ?_ (by first | omega | (simp; done) | (simp; omega) | exact Below.size (by assumption) | exact Nat.le_trans (Below.size (by assumption)) (by simp)) _) | (refine Below.via ?_ (by assumption) (by first | omega | (simp; done) | (simp; omega) | exact Below.size (by assumption) | exact Nat.le_trans (Below.size (by assumption)) (by simp)))))))).mono ?_; rintro e w1 ⟨rfl, hb1⟩; obtain ⟨hcl1, hfr1⟩ := bcell hb1; have hz1 := hb1.size; (try simp at hz1); (try (have hly1 := Nat.lt_of_succ_le hz1)); (try (have hlx1 := Nat.lt_of_succ_lt hly1)); (try (have hlw1 := Nat.lt_of_succ_lt hlx1)); (try (have hle1 := Nat.le_of_lt hly1)); (try (have hya1 : w.heap.size < w1.heap.size := by omega)); (try (have hyb1 : w.heap.size + 1 < w1.heap.size := by omega)); (try (have hyc1 : w.heap.size + 1 + 1 < w1.heap.size := by omega)); (try (have hyd1 : wa.heap.size < w1.heap.size := by omega)))
  go_ret
  exact ⟨rfl, (by repeat (first | exact Below.refl _ _ | assumption | refine Below.drew ?_ | refine below_drewN ?_ _ | refine Below.alloc' ?_ _ | (refine Below.setCell ?_ (by first | omega | (simp; done) | (simp; omega) | exact Below.size (by assumption) | exact Nat.le_trans (Below.size (by assumption)) (by simp)) _) | (refine Below.via' ?_ (by assumption)) | (refine Below.alloc ?_ (by first | omega | (simp; done) | (simp; omega) | exact Below.size (by assumption) | exact Nat.le_trans (Below.size (by assumption)) (by simp)) _) | (refine Below.via ?_ (by assumption) (by first | omega | (simp; done) | (simp; omega) | exact Below.size (by assumption) | exact Nat.le_trans (Below.size (by assumption)) (by simp)))))⟩

set_option maxHeartbeats 2000000 in
theorem qData_any (x y : Option Addr) (c1 c2 : Nat) (Q T : List PR) (w : World) (hm : Q.length ≤ 1048576) (hQ : ∀ q ∈ Q, q.L.length ≤ 1048576) (hT : pM T = pM Q) (hx : Rd w x (pC Q)) (hxi : ∀ q ∈ Q, Rd w q.x (iC q.L)) (hy : Rd w y (pC T)) (hyi : ∀ q ∈ T, Rd w q.x (iC q.L)) :
    Calls Try.prog 21 #[.slice x Q.length c1, .slice y T.length c2] w fun e w' => e = .returned (.bool true) ∧ Below w.heap.size w w' := by
  have hTl := pM_length hT
  have hTh := Lib.hid hT
  have hQh := Lib.hid hQ
  have hxh := Lib.hid hxi
  have hyh := Lib.hid hyi
  have hyr := Lib.hid hy
  clear hT hQ hxi hyi hy
  rw [hTl]
  replace hTl := Lib.hid hTl
  go_enter Try.func21, Try.ntmps21
  go_wp2
  go_loopw [13] (fun c wr => ∃ i : Nat, i ≤ Q.length ∧ c = .int .i64 i ∧ Below w.heap.size w wr) (fun c _ => Q.length - (intOf c).toNat)
  case atStart => exact ⟨0, by omega, rfl, Below.refl _ _⟩
  case round =>
    obtain ⟨i, hi, rfl, hb⟩ := hrel
    by_cases hlt : i < Q.length
    · obtain ⟨bl, off, q, rfl, hbl, hSi, hc0, hc1, hc2⟩ := (hx.below hb).rec hlt
      obtain ⟨bl2, off2, ⟨ta, th, tx, tc, tL⟩, rfl, hbl2, hSi2, hc3, hc4, hc5⟩ := (hyr.out.below hb).rec (i := i) (by have := hTl.out; omega)
      obtain ⟨e1, e2, e3⟩ := pM_get hTh.out hSi hSi2
      simp only at e1 e2 e3 hc3 hc4 hc5
      subst e1 e2 e3
      have hl := hQh.out q (List.mem_of_getElem? hSi)
      have r1 := Lib.hid ((hxh.out q (List.mem_of_getElem? hSi)).below hb)
      have r2 := Lib.hid ((hyh.out _ (List.mem_of_getElem? hSi2)).below hb)
      clear hx hyr hSi hSi2
      have hlt' : (i : Int) < (Q.length : Int) := by omega
      have hi0 : (0 : Int) ≤ (i : Int) := by omega
      go_wp2
      go_region_held3 (fun w' => Below (wr).heap.size (wr) w' ∧ (∀ b o, b < (wr).heap.size → w'.cell? ⟨b, o, none⟩ = (wr).cell? ⟨b, o, none⟩)) (first | exact keep_of (Below.refl _ _) | ((try go_split_ands); exact keep_of (by repeat (first | exact Below.refl _ _ | assumption | refine Below.drew ?_ | refine below_drewN ?_ _ | refine Below.alloc' ?_ _ | (refine Below.setCell ?_ (by first | omega | (simp; done) | (simp; omega) | exact Below.size (by assumption) | exact Nat.le_trans (Below.size (by assumption)) (by simp)) _) | (refine Below.via' ?_ (by assumption)) | (refine Below.alloc ?_ (by first | omega | (simp; done) | (simp; omega) | exact Below.size (by assumption) | exact Nat.le_trans (Below.size (by assumption)) (by simp)) _) | (refine Below.via ?_ (by assumption) (by first | omega | (simp; done) | (simp; omega) | exact Below.size (by assumption) | exact Nat.le_trans (Below.size (by assumption)) (by simp))))))) (first | (go_at_call 22; refine (qRecord_any _ _ _ _ _ _ q.L _ hl (r1.out.below (by exact (by repeat (first | exact Below.refl _ _ | assumption | refine Below.drew ?_ | refine below_drewN ?_ _ | refine Below.alloc' ?_ _ | (refine Below.setCell ?_ (by first | omega | (simp; done) | (simp; omega) | exact Below.size (by assumption) | exact Nat.le_trans (Below.size (by assumption)) (by simp)) _) | (refine Below.via' ?_ (by assumption)) | (refine Below.alloc ?_ (by first | omega | (simp; done) | (simp; omega) | exact Below.size (by assumption) | exact Nat.le_trans (Below.size (by assumption)) (by simp)) _) | (refine Below.via ?_ (by assumption) (by first | omega | (simp; done) | (simp; omega) | exact Below.size (by assumption) | exact Nat.le_trans (Below.size (by assumption)) (by simp))))))) (r2.out.below (by exact (by repeat (first | exact Below.refl _ _ | assumption | refine Below.drew ?_ | refine below_drewN ?_ _ | refine Below.alloc' ?_ _ | (refine Below.setCell ?_ (by first | omega | (simp; done) | (simp; omega) | exact Below.size (by assumption) | exact Nat.le_trans (Below.size (by assumption)) (by simp)) _) | (refine Below.via' ?_ (by assumption)) | (refine Below.alloc ?_ (by first | omega | (simp; done) | (simp; omega) | exact Below.size (by assumption) | exact Nat.le_trans (Below.size (by assumption)) (by simp)) _) | (refine Below.via ?_ (by assumption) (by first | omega | (simp; done) | (simp; omega) | exact Below.size (by assumption) | exact Nat.le_trans (Below.size (by assumption)) (by simp)))))))).mono ?_; rintro e w2 ⟨rfl, hb2⟩)); rename_i hH; obtain ⟨hb2, hcl2⟩ := hH; have hz2 := hb2.size; (try simp at hz2); (try (have hly2 := Nat.lt_of_succ_le hz2)); (try (have hlx2 := Nat.lt_of_succ_lt hly2)); (try (have hlw2 := Nat.lt_of_succ_lt hlx2)); (try (have hle2 := Nat.le_of_lt hly2)); (try (have hya2 : w.heap.size < w2.heap.size := by omega)); (try (have hyb2 : w.heap.size + 1 < w2.heap.size := by omega)); (try (have hyc2 : w.heap.size + 1 + 1 < w2.heap.size := by omega)); (try (have hyd2 : wa.heap.size < w2.heap.size := by omega))
      go_wp2
      go_roundw
      case rel => exact ⟨i + 1, by omega, by go_num, (by repeat (first | exact Below.refl _ _ | assumption | refine Below.drew ?_ | refine below_drewN ?_ _ | refine Below.alloc' ?_ _ | (refine Below.setCell ?_ (by first | omega | (simp; done) | (simp; omega) | exact Below.size (by assumption) | exact Nat.le_trans (Below.size (by assumption)) (by simp)) _) | (refine Below.via' ?_ (by assumption)) | (refine Below.alloc ?_ (by first | omega | (simp; done) | (simp; omega) | exact Below.size (by assumption) | exact Nat.le_trans (Below.size (by assumption)) (by simp)) _) | (refine Below.via ?_ (by assumption) (by first | omega | (simp; done) | (simp; omega) | exact Below.size (by assumption) | exact Nat.le_trans (Below.size (by assumption)) (by simp)))))⟩
      case measure => simp [intOf]; omega
    · have hij : i = Q.length := by omega
      subst hij
      clear hx hyr
      go_wp2
      go_ret
      exact ⟨rfl, hb⟩

/-- What the draw of a record hands back. -/
def RecPost (b : Nat) (x : Option Addr) (n cap k : Nat) (A : List Int) (w : World) (e : Ending) (w' : World) : Prop :=
  ∃ (a h : Int) (L : List Int) (y : Option Addr) (c k' : Nat), e = .returned (.agg #[.int .i64 a, .int .i64 h, .slice y L.length c]) ∧ a ∈ A ∧ 0 ≤ h ∧ h ≤ 5 ∧ SmI L ∧ L.length ≤ 7 ∧ k ≤ k' ∧ k' ≤ k + 24 ∧
    OwR w' w.heap.size w'.heap.size 3 1 (.slice y L.length c) L.length (iC L) ∧ CurAt w' b x n cap k' ∧ w.grownBy w' (some b)
set_option maxHeartbeats 4000000 in
theorem record_any (b : Nat) (x : Option Addr) (n cap k : Nat) (y : Option Addr) (cy c c2 : Nat) (S : List (ByteArray × Int)) (A : List Int) (w : World) (hk : k + 300 ≤ 1000000000000) (hl : 1 ≤ A.length) (hl2 : A.length ≤ 1000) (hcb : c ≠ b)
    (hA : IRd w (some ⟨c, 0, none⟩) A) (hC : CurAt w b x n cap k) (hB : ByRd w x n) (hD : DrS S) (hS : Rd w y (vC S)) (hyb : ∀ c off, y = some ⟨c, off, none⟩ → some c ≠ some b) :
    Calls Try.prog 123 #[.pointer (some ⟨b, 0, none⟩), .slice y S.length cy, .slice (some ⟨c, 0, none⟩) A.length c2] w (RecPost b x n cap k A w) := by
  have hbs := hC.inside
  have hap := Lib.hid hC.apart
  have hC2 := Lib.hid hC
  have hB2 := Lib.hid hB
  have hS2 := Lib.hid hS
  have hy2 := Lib.hid hyb
  have hA2 := Lib.hid hA
  replace hD := Lib.hid hD
  clear hC hB hS hyb hA
  have N0 := Lib.hid (Wb.new w 36 #[.int .i64 0, .int .i64 0, .slice none 0 0])
  go_enter Try.func123, Try.ntmps123
  go_wp2_with fail
  have G0 := Lib.hid (grown_alloc (grown_refl w (some b)) (.cells #[.int .i64 0, .int .i64 0, .slice none 0 0] 36))
  refine (among_any b x n cap k c c2 A _ (by omega) hl hl2 hcb (hA2.out.grown G0.out hcb) (hC2.out.alloc _) (hB2.out.alloc _)).mono ?_
  rintro e w1 ⟨a, k1, rfl, ha, ka, kb, hC3, hg1⟩
  have G1 := Lib.hid (grown_trans G0.out hg1)
  have N1 := Lib.hid (wb_grown N0.out hg1 (fun j hj => by injection hj with hj; omega))
  replace hC3 := Lib.hid hC3
  replace ha := Lib.hid ha
  clear hg1
  go_wp2_with fail
  refine (pick_any b x n cap k1 6 w1 (by omega) (by omega) (by omega) hC3.out (hB2.out.grown G1.out hap.out)).mono ?_
  rintro e w2 ⟨h, k2, rfl, h0, h1, kc, kd, hC4, hg2⟩
  have G2 := Lib.hid (grown_trans G1.out hg2)
  have N2 := Lib.hid (wb_grown N1.out hg2 (fun j hj => by injection hj with hj; omega))
  replace hC4 := Lib.hid hC4
  clear hg2 hC3
  go_wp2_with fail
  refine (values_any b x n cap k2 y cy S w2 (by omega) hC4.out (hB2.out.grown G2.out hap.out) hD.out (hS2.out.keep G2.out hy2.out) hy2.out).mono ?_
  rintro e w3 ⟨L, v, k3, rfl, hI, hl7, ke, kf, hown, hC5, hg3⟩
  obtain ⟨y5, c5, rfl, -, -⟩ := own_form hown
  have G3 := Lib.hid (grown_trans G2.out hg3)
  have hs2 := G2.out.size
  have hs3 := hg3.size
  have N3 := wb_grown N2.out hg3 (fun j hj => by injection hj with hj; omega)
  have hin := N2.out.inside
  have hin3 := N3.inside
  have d0 := N3.read 0
  have d1 := N3.read 1
  have d2 := N3.read 2
  have e0 := N3.free 0
  have e1 := N3.free 1
  have e2 := N3.free 2
  replace hC5 := Lib.hid hC5
  replace hown := Lib.hid hown
  replace hI := Lib.hid hI
  clear hg3 hC4 N3
  go_wp2
  have ho := hown.out
  refine bodyPost_ret (v := .agg #[.int .i64 a, .int .i64 h, .slice y5 L.length c5]) (by simp [results, Try.results123, go_sem, *]) rfl ⟨a, h, L, y5, c5, k3, rfl, ha.out, h0, by omega, hI.out, hl7, by omega, by omega, ?_, ?_, ?_⟩
  · refine (OwR.of (own_farC (own_farC (own_farC ho ⟨w.heap.size, 0, none⟩ hin _) ⟨w.heap.size, 1, none⟩ hin _) ⟨w.heap.size, 2, none⟩ hin _)).more (by omega) (Nat.le_refl _)
  · exact ((hC5.out.set (by omega) _ _).set (by omega) _ _).set (by omega) _ _
  · exact grown_set (grown_set (grown_set G3.out (Nat.le_refl _) _ _) (Nat.le_refl _) _ _) (Nat.le_refl _) _ _
end Go.Proofs.Ytelnbjhnjcbjoaa
