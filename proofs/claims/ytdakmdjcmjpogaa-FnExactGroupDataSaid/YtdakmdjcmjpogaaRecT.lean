/-
  The walks of chapter 3: the program's sorted records.
-/
import Derived.Test.YtdakmdjcmjpogaaRecS
namespace Go.Proofs.Ytdakmdjcmjpogaa
open Go.RowKit
set_option maxRecDepth 100000

/-- What the comparison asks: the values can be read, wherever the rows' cells are turned. -/
theorem rd_sort {T0 : List PR} [Inhabited {q : PR // q ∈ T0}] {w : World} {g n : Nat} {os : Array Obj} {d : Array {q : PR // q ∈ T0}} {x : Option Addr} {xs : List Value} (h : Rd w x xs) (hne : ∀ b off, x = some ⟨b, off, none⟩ → b ≠ g) : Rd (sortWorldK enR 3 w g 0 n d os) x xs :=
  h.keep (grown_sort d) (fun b off e => by intro h2; injection h2 with h2; exact hne b off e h2)

theorem cmpLays {T0 : List PR} [Inhabited {q : PR // q ∈ T0}] {w : World} {g n : Nat} (hT : ∀ q ∈ T0, q.L.length ≤ 9223372036854775807 ∧ Rd w q.x (iC q.L) ∧ ∀ b off, q.x = some ⟨b, off, none⟩ → b ≠ g) :
    CmpLays Try.prog 39 #[] enR 3 (cfR (T0 := T0)) g 0 n w := by
  intro m os dk _ x y
  obtain ⟨hx1, hx2, hx3⟩ := hT x.1 x.2
  obtain ⟨_, hy2, hy3⟩ := hT y.1 y.2
  refine (iCR_x x.1.x y.1.x x.1.c y.1.c x.1.a x.1.h y.1.a y.1.h x.1.L y.1.L _ hx1 (rd_sort hx2 hx3) (rd_sort hy2 hy3)).mono ?_
  rintro e w' ⟨rfl, hb⟩
  exact ⟨rfl, grow_of_BD hb⟩

theorem OwV.kept {w w1 : World} {lo hi g : Nat} {ti : TypeId} {Q : List PR} (h : OwV w lo hi ti Q) (hg : w.grownBy w1 (some g)) (hne : ∀ q ∈ Q, q.v.ownBlock ≠ some g) : OwV w1 lo hi ti Q := by
  refine ⟨fun q hq => ⟨(h.1 q hq).1.kept hg ?_, (h.1 q hq).2⟩, h.2⟩
  cases hb : q.v.ownBlock with
  | none => exact Or.inl rfl
  | some k => exact Or.inr fun e => hne q hq (by rw [hb, e])

/-- Records that a function gives. -/
def SrP (R : List RV) (w : World) (e : Ending) (w' : World) : Prop :=
  ∃ v T, e = .returned v ∧ pM T = R ∧ OwD w' w.heap.size w'.heap.size 36 3 v T ∧ Below w.heap.size w w'

/-- slices.SortFunc over records that a call owns. -/
theorem sortF_any (lo hi g cap : Nat) (T : List PR) (w : World) (hm : T.length ≤ 1048576) (hL : ∀ q ∈ T, q.L.length ≤ 9223372036854775807) (ho : OwD w lo hi 36 3 (.slice (some ⟨g, 0, none⟩) T.length cap) T) :
    Calls Try.prog 124 #[.slice (some ⟨g, 0, none⟩) T.length cap, .func (.func 39) #[] #[]] w fun e w' =>
      e = .returned (.tuple #[]) ∧ ∃ T', pM T' = srt (pM T) ∧ T'.length = T.length ∧ OwD w' lo hi 36 3 (.slice (some ⟨g, 0, none⟩) T'.length cap) T' ∧ Off lo hi w w' := by
  have hlt := ho.1.1.lt g rfl
  have hin := ho.1.2 g rfl
  cases hT : T with
  | nil =>
    subst hT
    have h := AnyF.slices_SortFunc_none Try.sortRec (some ⟨g, 0, none⟩) cap (.func (.func 39) #[] #[]) w
    refine h.mono ?_
    rintro e w' ⟨rfl, rfl⟩
    exact ⟨rfl, [], srt_uniq (List.Perm.refl _) (by unfold isS pM; simp), rfl, ho, Off.refl _ _ _⟩
  | cons q0 rest =>
    rw [← hT]
    haveI : Inhabited {q : PR // q ∈ T} := ⟨⟨q0, by rw [hT]; exact List.mem_cons_self⟩⟩
    have hd : (T.attach.toArray.toList.map (·.1)) = T := by simp
    have hH : Sort.HoldsK enR 3 w g 0 T.attach.toArray := holds_own (by rw [hd]; exact ho.1.1) (by simp)
    have eg : ∀ args w, (callFunc 39 args).run Try.prog w = .ok (.enter 39 args) w := enters_of Try.func39 (by kernel_rfl) rfl
    have hc := cmpLays (T0 := T) (w := w) (g := g) (n := T.attach.toArray.size) (fun q hq => ⟨hL q hq, (ho.2.1.1 q hq).rd, fun b off e hbg => ho.2.2 q hq g rfl (by unfold PR.v; rw [e, hbg]; rfl)⟩)
    have h := AnyQ.slices_SortFunc Try.sortRec 3 Try.isAgg36 Try.sizeOf36 enR enR_len enR_one cfR swoR 39 #[] g 0 cap T.attach.toArray w eg hc hH hlt.2 (by simp; omega)
    rw [show T.attach.toArray.size = T.length by simp] at h
    refine h.mono ?_
    rintro e w' ⟨rfl, d', m, os, hp, hs, rfl⟩
    have hds : d'.size = T.length := by rw [hp.1]; simp
    have hperm : (d'.toList.map (·.1)).Perm T := by
      have h1 := hp.2.2
      have e1 : d'.extract 0 T.length = d' := by
        apply Array.ext
        · simp; omega
        · intro i h1 h2; simp
      have e2 : T.attach.toArray.extract 0 T.length = T.attach.toArray := by
        apply Array.ext
        · simp
        · intro i h1 h2; simp
      rw [e1, e2] at h1
      have h2 := h1.map (fun x : {q : PR // q ∈ T} => x.1)
      rwa [hd] at h2
    have hsort : isS (pM (d'.toList.map (·.1))) := by
      unfold isS
      rw [List.pairwise_iff_getElem]
      intro i j hi hj hij
      have hi' : i < d'.size := by simpa [pM] using hi
      have hj' : j < d'.size := by simpa [pM] using hj
      have h1 := hs i j (Nat.zero_le _) hij (by rw [← hds]; exact hj')
      unfold ltOf cfR at h1
      rw [decide_eq_false_iff_not, getElem!_pos d' j hj', getElem!_pos d' i hi'] at h1
      have h2 := rcZ_neg (d'[i]).1.m (d'[j]).1.m
      rw [leR_iff]
      simp only [pM, List.getElem_map, Array.getElem_toList]
      omega
    have hg := grown_sort (w := w) (g := g) (n := m) (os := os) d'
    refine ⟨rfl, d'.toList.map (·.1), srt_uniq (by unfold pM; exact hperm.map _) hsort, by simp [hds], ?_, Off.of_grown hg (fun k hk => by injection hk with hk; omega)⟩
    have hl : (d'.toList.map (·.1)).length = T.length := by simp [hds]
    refine ⟨⟨?_, fun k hk => ho.1.2 k hk⟩, ?_, fun q hq k hk => ho.2.2 q (hperm.mem_iff.1 hq) k hk⟩
    · rw [hl]; exact own_sort ho.1.1 hds
    · exact (ho.2.1.perm hperm.symm).kept hg (fun q hq => ho.2.2 q (hperm.mem_iff.1 hq) g rfl)
end Go.Proofs.Ytdakmdjcmjpogaa
