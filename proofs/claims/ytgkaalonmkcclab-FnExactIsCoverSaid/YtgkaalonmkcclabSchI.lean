/-
  The walks of chapter 2: the map of the levels by name, IsSchema.
-/
import Derived.Test.YtgkaalonmkcclabSchW
namespace Go.Proofs.Ytgkaalonmkcclab
open Go.RowKit Go.Maps
set_option maxRecDepth 100000

/-- What the map of the levels reads as. -/
def vK (p : ByteArray × Int) : Lit := .string (nmL p.1)
def mpD (S : List (ByteArray × Int)) : DataW Unit := S.foldl (fun D p => D.put (vK p) (.lit (.int .i64 p.2))) (.map [])
theorem mpD_snoc (S : List (ByteArray × Int)) (p : ByteArray × Int) : mpD (S ++ [p]) = (mpD S).put (vK p) (.lit (.int .i64 p.2)) := by unfold mpD; rw [List.foldl_append]; rfl
theorem vK_key (p : ByteArray × Int) : WideAt.IsKeyLit (vK p) := trivial
theorem vK_ne {p : ByteArray × Int} {l : List UInt8} (h : l ≠ nmL p.1) : Lit.string l ≠ vK p := fun e => by unfold vK at e; injection e with e; exact h e

theorem snoc_ind {α : Type} {P : List α → Prop} (h0 : P []) (h1 : ∀ l a, P l → P (l ++ [a])) (l : List α) : P l := by
  have : ∀ n (l : List α), l.length = n → P l := by
    intro n
    induction n with
    | zero => intro l hl; rw [List.eq_nil_of_length_eq_zero hl]; exact h0
    | succ n ih =>
      intro l hl
      have hne : l ≠ [] := by intro e; rw [e] at hl; simp at hl
      rw [← List.dropLast_concat_getLast hne]
      exact h1 _ _ (ih _ (by rw [List.length_dropLast]; omega))
  exact this _ l rfl

theorem mpD_tidy (S : List (ByteArray × Int)) : Tidy (mpD S) := by
  induction S using snoc_ind with
  | h0 => exact tidy_empty
  | h1 l a ih => rw [mpD_snoc]; exact ih.put (vK_key a) _
theorem mpD_has (S : List (ByteArray × Int)) (l : List UInt8) : has (mpD S) (.string l) = hasB S l := by
  induction S using snoc_ind with
  | h0 => rfl
  | h1 S p ih =>
    rw [mpD_snoc, hasB_snoc]
    by_cases e : l = nmL p.1
    · subst e
      rw [show Lit.string (nmL p.1) = vK p from rfl, has_put_same (mpD_tidy S).isMap (vK_key p)]
      simp
    · rw [has_put_other (vK_ne e), ih]
      have : (nmL p.1 == l) = false := by rw [beq_eq_false_iff_ne]; exact fun h => e h.symm
      rw [this, Bool.or_false]
theorem mpD_size_le (S : List (ByteArray × Int)) : size (mpD S) ≤ S.length := by
  induction S using snoc_ind with
  | h0 => exact Nat.le_refl _
  | h1 S p ih =>
    rw [mpD_snoc, size_put (mpD_tidy S), List.length_append]
    simp only [List.length_cons, List.length_nil]
    split <;> omega
theorem ndB_snoc (S : List (ByteArray × Int)) (p : ByteArray × Int) : ndB (S ++ [p]) = (ndB S && !hasB S (nmL p.1)) := by
  unfold ndB
  rw [Bool.eq_iff_iff, Bool.and_eq_true, decide_eq_true_eq, decide_eq_true_eq, ky_app, List.nodup_append, Bool.not_eq_true', ← Bool.not_eq_true, hasB_iff]
  constructor
  · rintro ⟨h2, _, h3⟩
    exact ⟨h2, fun hm => h3 _ hm (nmL p.1) (by simp [ky]) rfl⟩
  · rintro ⟨h2, h4⟩
    refine ⟨h2, by simp [ky], fun a ha b hb => ?_⟩
    simp [ky] at hb
    subst hb
    rintro rfl
    exact h4 ha
theorem mpD_size (S : List (ByteArray × Int)) : size (mpD S) = S.length ↔ ndB S = true := by
  induction S using snoc_ind with
  | h0 => simp [mpD, size, ndB, ky]
  | h1 S p ih =>
    rw [mpD_snoc, size_put (mpD_tidy S), List.length_append, ndB_snoc, show vK p = .string (nmL p.1) from rfl, mpD_has]
    simp only [List.length_cons, List.length_nil]
    have := mpD_size_le S
    cases hh : hasB S (nmL p.1)
    · simp only [Bool.not_false, Bool.and_true]
      rw [← ih]
      simp
    · simp only [if_true, Bool.not_true, Bool.and_false]
      constructor
      · intro h; omega
      · intro h; cases h
theorem mpD_at (S : List (ByteArray × Int)) (h : ndB S = true) (z : DataW Unit) : ∀ p ∈ S, (mpD S).atKey (vK p) z = .lit (.int .i64 p.2) := by
  induction S using snoc_ind with
  | h0 => intro p hp; cases hp
  | h1 S q ih =>
    rw [ndB_snoc, Bool.and_eq_true, Bool.not_eq_true'] at h
    intro p hp
    rw [mpD_snoc]
    rcases List.mem_append.1 hp with hp | hp
    · have hne : nmL p.1 ≠ nmL q.1 := by
        intro e
        have := (hasB_iff S (nmL q.1)).2 (by rw [← e]; exact List.mem_map_of_mem hp)
        rw [h.2] at this
        cases this
      rw [atKey_put_other (k := vK q) (k' := vK p) (vK_ne hne)]
      exact ih h.1 p hp
    · simp at hp
      subst hp
      exact atKey_put_same (mpD_tidy S).isMap (vK_key p) _ _

theorem run_makeMap_hint {P : Program} (t k e : TypeId) (kd : IntKind) (n : Int) (ht : P.underlying t = some (.map k e)) (w : World) :
    (Instr.makeMap t (some (.int kd n))).run P w = .ok (.map (some w.heap.size)) (w.alloc (.map #[] 0)) := by
  simp [Instr.makeMap, run_underlying ht]; rfl
theorem lawS : Keyed Try.prog 9 := string_keyed Try.underlying9
set_option maxHeartbeats 2000000 in
theorem levelsByName_any (x : Option Addr) (cap : Nat) (S : List (ByteArray × Int)) (w : World) (hm : S.length ≤ 1048576) (hn : ∀ p ∈ S, p.1.size ≤ 9223372036854775807 ∧ IsI64 p.2) (hS : Rd w x (vC S)) :
    Calls Try.prog 133 #[.slice x S.length cap] w fun e w' => e = .returned (.map (some w.heap.size)) ∧ w'.ownsMap Try.prog 9 (plainElem Try.prog 3) w.heap.size S.length (mpD S) ∧ Below w.heap.size w w' := by
  have hnh := Lib.hid hn
  clear hn
  have hSh := Lib.hid hS
  clear hS
  have hmk := fun (W : World) => run_makeMap_hint (P := Try.prog) 161 9 3 .i64 (S.length : Int) Try.underlying161 W
  go_enter Try.func133, Try.ntmps133
  go_wp2
  clear hmk
  go_loopw [11] (fun c wr => ∃ i : Nat, i ≤ S.length ∧ c = .int .i64 i ∧ wr.ownsMap Try.prog 9 (plainElem Try.prog 3) w.heap.size i (mpD (S.take i)) ∧ Below w.heap.size w wr) (fun c _ => S.length - (intOf c).toNat)
  case atStart => exact ⟨0, by omega, rfl, World.ownsMap_made _ _ _ _, (by repeat (first | exact Below.refl _ _ | assumption | refine Below.drew ?_ | refine below_drewN ?_ _ | refine Below.alloc' ?_ _ | (refine Below.setCell ?_ (by first | omega | (simp; done) | (simp; omega) | exact Below.size (by assumption) | exact Nat.le_trans (Below.size (by assumption)) (by simp)) _) | (refine Below.via' ?_ (by assumption)) | (refine Below.alloc ?_ (by first | omega | (simp; done) | (simp; omega) | exact Below.size (by assumption) | exact Nat.le_trans (Below.size (by assumption)) (by simp)) _) | (refine Below.via ?_ (by assumption) (by first | omega | (simp; done) | (simp; omega) | exact Below.size (by assumption) | exact Nat.le_trans (Below.size (by assumption)) (by simp)))))⟩
  case round =>
    obtain ⟨i, hi, rfl, hown, hb⟩ := hrel
    by_cases hlt : i < S.length
    · obtain ⟨bl, off, nm, lv, rfl, hbl, hSi, hc0, hc1⟩ := (hSh.out.below hb).var hlt
      obtain ⟨hnm, hlv⟩ := hnh.out _ (List.mem_of_getElem? hSi)
      simp only at hnm hlv
      have hwf : (Lit.int .i64 lv).wf = true := by
        unfold IsI64 at hlv
        have h1 : IntKind.min .i64 = -9223372036854775808 := by decide
        have h2 : IntKind.max .i64 = 9223372036854775807 := by decide
        simp only [Lit.wf, Bool.and_eq_true, decide_eq_true_eq]
        omega
      have hkey := WideMaps.keyOf_string_mk Try.underlying9 (s := nm) (by unfold maxLen; omega)
      have hkey := Lib.hid hkey
      have hval := Lib.hid (plainElem_int (H := Unit) Try.underlying3 hwf)
      have htk := Lib.hid (take_snoc hSi)
      have hSi := Lib.hid hSi
      have hlt' : (i : Int) < (S.length : Int) := by omega
      have ho2 := hown.alloc (.cells #[.string nm, .int .i64 lv] 93)
      have hlow := hown.lt
      go_wp2_with (at_mapUpdate; refine wpList_mapUpdate_own _ rfl _ _ _ 161 rfl 9 3 lawS Try.underlying161 _ w.heap.size i _ rfl ho2 (by unfold maxLen; omega) _ _ _ rfl rfl hkey.out _ [] hval.out ?_; intro w1 hown1 hgrow1)
      have hb1 : Below w.heap.size w w1 := (hb.alloc hb.size _).grown hgrow1 (by simp; omega) (by intro k hk; injection hk with hk; omega)
      go_roundw
      case rel => exact ⟨i + 1, by omega, by go_num, by rw [htk.out, mpD_snoc]; exact hown1, hb1⟩
      case measure => simp [intOf]; omega
    · have hij : i = S.length := by omega
      subst hij
      rw [List.take_length] at hown
      have hown := Lib.hid hown
      go_wp2
      go_ret
      exact ⟨rfl, hown.out, hb⟩

/-- Which keys are still to come, and what is known of the others. -/
def Seen (S : List (ByteArray × Int)) (left : Lit → Bool) : Prop := (∀ z, left z = true → has (mpD S) z = true) ∧ ∀ p ∈ S, left (vK p) = false → vaB p = true
theorem seen_start (S : List (ByteArray × Int)) : Seen S (has (mpD S)) :=
  ⟨fun z h => h, fun p hp h => by
    have := mpD_has S (nmL p.1)
    rw [show Lit.string (nmL p.1) = vK p from rfl, h] at this
    have k := (hasB_iff S (nmL p.1)).2 (List.mem_map_of_mem hp)
    rw [← this] at k
    cases k⟩
theorem seen_who {S : List (ByteArray × Int)} (hnd : ndB S = true) {x : ByteArray} {c : Int} (hat : ∀ z, (mpD S).atKey (.string x.data.toList) z = .lit (.int .i64 c)) :
    ∀ p ∈ S, nmL p.1 = nmL x → p.2 = c := by
  intro p hp e
  have := mpD_at S hnd (.lit (.bool true)) p hp
  rw [show vK p = .string x.data.toList from by unfold vK; rw [e]; rfl, hat] at this
  injection this with this
  injection this with _ this
  exact this.symm
theorem nm_same {a b : ByteArray} (h : nmL a = nmL b) : nmB a = nmB b := by
  have : a.size = b.size := by rw [← nmL_len, ← nmL_len, h]
  unfold nmB
  rw [h, this]
theorem seen_bad {S : List (ByteArray × Int)} {left : Lit → Bool} (h : Seen S left) (hnd : ndB S = true) {x : ByteArray} {c : Int} (hl : left (.string x.data.toList) = true) (hat : ∀ z, (mpD S).atKey (.string x.data.toList) z = .lit (.int .i64 c))
    (hb : vaB (x, c) = false) : schB S = false := by
  have hh := h.1 _ hl
  rw [mpD_has, hasB_iff] at hh
  obtain ⟨p, hp, e⟩ := List.mem_map.1 hh
  have e : nmL p.1 = nmL x := e
  have hc := seen_who hnd hat p hp e
  have hv : vaB p = false := by
    unfold vaB at hb ⊢
    rw [nm_same e, hc]
    exact hb
  cases hs : schB S with
  | false => rfl
  | true => rw [schB_va hs hp] at hv; cases hv
theorem seen_step {S : List (ByteArray × Int)} {left : Lit → Bool} (h : Seen S left) (hnd : ndB S = true) {x : ByteArray} {c : Int} (hat : ∀ z, (mpD S).atKey (.string x.data.toList) z = .lit (.int .i64 c))
    (hb : vaB (x, c) = true) : Seen S (fun z => left z && !z.sameKey (.string x.data.toList)) := by
  refine ⟨fun z hz => h.1 z (by simp only [Bool.and_eq_true] at hz; exact hz.1), fun p hp hz => ?_⟩
  simp only [Bool.and_eq_false_iff, Bool.not_eq_false'] at hz
  rcases hz with hz | hz
  · exact h.2 p hp hz
  · have e := WideAt.sameKey_eq hz
    unfold vK at e
    injection e with e
    have e : nmL p.1 = nmL x := e
    have hc := seen_who hnd hat p hp e
    unfold vaB at hb ⊢
    rw [nm_same e, hc]
    exact hb
theorem seen_end {S : List (ByteArray × Int)} {left : Lit → Bool} (h : Seen S left) (hnd : ndB S = true) (h1 : 1 ≤ S.length) (h2 : S.length ≤ 6) (hl : ∀ z, left z = false) : schB S = true := by
  rw [schB_of h1 h2]
  unfold upB
  rw [hnd, Bool.and_true, List.all_eq_true]
  exact fun p hp => h.2 p hp (hl _)
theorem sch_dup {S : List (ByteArray × Int)} (h : ndB S = false) : schB S = false := by unfold schB upB; rw [h, Bool.and_false, Bool.and_false]
theorem va_lt {nm : ByteArray} {lv : Int} (h : lv < 2) : vaB (nm, lv) = false := by
  refine va_f2 ?_
  cases hh : lvB lv with
  | false => rfl
  | true => have := (lvB_iff lv).1 hh; omega
theorem va_gt {nm : ByteArray} {lv : Int} (h : 8 < lv) : vaB (nm, lv) = false := by
  refine va_f2 ?_
  cases hh : lvB lv with
  | false => rfl
  | true => have := (lvB_iff lv).1 hh; omega

/-- The step of a range over a map of strings and integers. -/
theorem wpList_next_si {P : Program} (w : World) {ops : Array Oper} {rest : List Oper} {o : Oper} {a : Act} {Q : Exit → Act → World → Prop} (hg : o.guard = none) (it : Operand) (hop : o.op = Op.next it false) (k e : TypeId) (hk : P.underlying k = some .string) (he : P.underlying e = some (.int .i64))
    (b r n : Nat) (D : DataW Unit) (left : Lit → Bool) (cnt : Nat) (hit : a.eval it = .pointer (some ⟨r, 0, none⟩)) (h : w.ranges P k (plainElem P e) b r n D left cnt)
    (hDone : (∀ kl, left kl = false) → wpList P ops Q rest (a.put o.dst (.tuple #[.bool false])) w)
    (hMore : ∀ (x : ByteArray) (c : Int) (w' : World) (cnt' : Nat), x.size ≤ 9223372036854775807 → left (.string x.data.toList) = true → (∀ zd, D.atKey (.string x.data.toList) zd = .lit (.int .i64 c)) → w'.ranges P k (plainElem P e) b r n D (fun z => left z && !z.sameKey (.string x.data.toList)) cnt' → cnt' < cnt →
      w.grownBy w' (some r) → (Instr.entry (.pointer (some ⟨r, 0, none⟩))).run P w' = .ok (.tuple #[.string x, .int .i64 c]) w' → wpList P ops Q rest (a.put o.dst (.tuple #[.bool true, .string x, .int .i64 c])) w') :
    wpList P ops Q (o :: rest) a w :=
  wpList_next_ranges w hg it hop k (string_keyed hk) (plainElem P e) Value.string (Value.int .i64) (fun key kl hkey => by obtain ⟨x, rfl, _⟩ := WideMaps.string_of_keyOf hk hkey; exact ⟨x, rfl⟩) (fun v y hv => by obtain ⟨c, rfl, _⟩ := plainElem_int_inv he hv; exact ⟨c, rfl⟩)
    b r n D left cnt hit h (fun _ hl => hDone hl) (fun x c kl y w' cnt' hkey hlk hv hat hrg hlt hgr _ hen => by
      obtain ⟨x', ex, rfl, hsz⟩ := WideMaps.string_of_keyOf hk hkey
      cases ex
      obtain ⟨c', ec, rfl, _⟩ := plainElem_int_inv he hv
      cases ec
      exact hMore x c w' cnt' (by unfold maxLen at hsz; omega) hlk hat hrg hlt hgr hen)

set_option maxHeartbeats 2000000 in
theorem IsSchema_any (x : Option Addr) (cap : Nat) (S : List (ByteArray × Int)) (w : World) (hm : S.length ≤ 1048576) (hn : ∀ p ∈ S, p.1.size ≤ 9223372036854775807 ∧ IsI64 p.2) (hS : Rd w x (vC S)) :
    Calls Try.prog 74 #[.slice x S.length cap] w fun e w' => e = .returned (.bool (schB S)) ∧ Below w.heap.size w w' := by
  have hnh := Lib.hid hn
  clear hn
  have hSh := Lib.hid hS
  clear hS
  by_cases h0 : S.length = 0
  · have hv := Lib.hid (schB_short h0)
    have h0' : (S.length : Int) = 0 := by omega
    go_enter Try.func74, Try.ntmps74
    go_wp2
    go_ret
    exact ⟨ret_bool hv.out.symm, (by repeat (first | exact Below.refl _ _ | assumption | refine Below.drew ?_ | refine below_drewN ?_ _ | refine Below.alloc' ?_ _ | (refine Below.setCell ?_ (by first | omega | (simp; done) | (simp; omega) | exact Below.size (by assumption) | exact Nat.le_trans (Below.size (by assumption)) (by simp)) _) | (refine Below.via' ?_ (by assumption)) | (refine Below.alloc ?_ (by first | omega | (simp; done) | (simp; omega) | exact Below.size (by assumption) | exact Nat.le_trans (Below.size (by assumption)) (by simp)) _) | (refine Below.via ?_ (by assumption) (by first | omega | (simp; done) | (simp; omega) | exact Below.size (by assumption) | exact Nat.le_trans (Below.size (by assumption)) (by simp)))))⟩
  have h0' : ((S.length : Int) == 0) = false := by rw [beq_eq_false_iff_ne]; omega
  by_cases h6 : (6 : Int) < (S.length : Int)
  · have hv := Lib.hid (schB_long (S := S) (by omega))
    go_enter Try.func74, Try.ntmps74
    go_wp2
    go_ret
    exact ⟨ret_bool hv.out.symm, (by repeat (first | exact Below.refl _ _ | assumption | refine Below.drew ?_ | refine below_drewN ?_ _ | refine Below.alloc' ?_ _ | (refine Below.setCell ?_ (by first | omega | (simp; done) | (simp; omega) | exact Below.size (by assumption) | exact Nat.le_trans (Below.size (by assumption)) (by simp)) _) | (refine Below.via' ?_ (by assumption)) | (refine Below.alloc ?_ (by first | omega | (simp; done) | (simp; omega) | exact Below.size (by assumption) | exact Nat.le_trans (Below.size (by assumption)) (by simp)) _) | (refine Below.via ?_ (by assumption) (by first | omega | (simp; done) | (simp; omega) | exact Below.size (by assumption) | exact Nat.le_trans (Below.size (by assumption)) (by simp)))))⟩
  cases hnd : ndB S
  · have hv := Lib.hid (sch_dup hnd)
    have hsz : ((size (mpD S) : Int) == (S.length : Int)) = false := by
      rw [beq_eq_false_iff_ne]
      intro e
      have := (mpD_size S).1 (by omega)
      rw [this] at hnd
      cases hnd
    go_enter Try.func74, Try.ntmps74
    go_wp2_with (first | (go_at_call 133; refine (levelsByName_any _ _ _ _ hm hnh.out hSh.out).mono ?_; rintro e w1 ⟨rfl, hown, hb1⟩) | (at_len; refine wpList_len_own _ rfl _ 161 rfl 9 3 Try.underlying161 _ w.heap.size S.length _ rfl hown ?_))
    go_ret
    exact ⟨ret_bool hv.out.symm, (by repeat (first | exact Below.refl _ _ | assumption | refine Below.drew ?_ | refine below_drewN ?_ _ | refine Below.alloc' ?_ _ | (refine Below.setCell ?_ (by first | omega | (simp; done) | (simp; omega) | exact Below.size (by assumption) | exact Nat.le_trans (Below.size (by assumption)) (by simp)) _) | (refine Below.via' ?_ (by assumption)) | (refine Below.alloc ?_ (by first | omega | (simp; done) | (simp; omega) | exact Below.size (by assumption) | exact Nat.le_trans (Below.size (by assumption)) (by simp)) _) | (refine Below.via ?_ (by assumption) (by first | omega | (simp; done) | (simp; omega) | exact Below.size (by assumption) | exact Nat.le_trans (Below.size (by assumption)) (by simp)))))⟩
  have hsz : ((size (mpD S) : Int) == (S.length : Int)) = true := by
    rw [beq_iff_eq]
    have := (mpD_size S).2 hnd
    omega
  have hsz2 : ((size (mpD S) : Int) != (S.length : Int)) = false := by show (!((size (mpD S) : Int) == (S.length : Int))) = false; rw [hsz]; rfl
  have hnd := Lib.hid hnd
  go_enter Try.func74, Try.ntmps74
  go_wp2_with (first | (go_at_call 133; refine (levelsByName_any _ _ _ _ hm hnh.out hSh.out).mono ?_; rintro e w1 ⟨rfl, hown, hb1⟩) | (at_len; refine wpList_len_own _ rfl _ 161 rfl 9 3 Try.underlying161 _ w.heap.size S.length _ rfl hown ?_) | (at_range; refine wpList_range_own _ rfl _ 161 rfl 9 3 lawS Try.underlying161 _ w.heap.size S.length _ rfl hown ?_; intro w0 hrg0 hg0 hs0))
  clear hsz hsz2
  have hwr : w.heap.size ≤ w1.heap.size := hb1.size
  go_frame
  go_loopw [4] (fun _ wr => ∃ (left : Lit → Bool) (cnt : Nat), wr.ranges Try.prog 9 (plainElem Try.prog 3) w.heap.size w1.heap.size S.length (mpD S) left cnt ∧ Hid (Seen S left) ∧ Below w.heap.size w wr)
    (fun _ wr => wr.rangeLeft w.heap.size w1.heap.size)
  case atStart => exact ⟨_, _, hrg0, seen_start S, hb1.grown hg0 hwr (by intro k hk; cases hk)⟩
  case round =>
    clear hrg0 hg0 hs0 hown
    obtain ⟨left, cnt, hrg, hseen, hb⟩ := hrel
    go_wp2_with (at_next; refine wpList_next_si _ rfl _ rfl 9 3 Try.underlying9 Try.underlying3 w.heap.size w1.heap.size S.length _ _ _ rfl hrg ?_ ?_)
    · intro hl0
      have hv := Lib.hid (seen_end hseen.out hnd.out (by omega) (by omega) hl0)
      clear hl0
      go_wp2
      go_ret
      exact ⟨ret_bool hv.out.symm, hb⟩
    · intro n c w2 cnt2 hnsz hlk hat hrg2 hlt hgr hen
      have hb2 : Below w.heap.size w w2 := hb.grown hgr hb.size (by intro k hk; injection hk with hk; omega)
      have hbad := Lib.hid (fun h : vaB (n, c) = false => seen_bad hseen.out hnd.out hlk hat h)
      have hgood := Lib.hid (fun h : vaB (n, c) = true => seen_step hseen.out hnd.out hat h)
      clear hlk hat
      cases ha : nmB n
      · have hv := Lib.hid (hbad.out (va_f1 ha))
        go_wp2_with (go_at_call 134; refine (isVariableName_any _ _ hnsz).mono ?_; rintro e w3 ⟨rfl, rfl⟩)
        go_ret
        exact ⟨ret_bool hv.out.symm, hb2⟩
      by_cases h2 : c < 2
      · have hv := Lib.hid (hbad.out (va_lt h2))
        go_wp2_with (go_at_call 134; refine (isVariableName_any _ _ hnsz).mono ?_; rintro e w3 ⟨rfl, rfl⟩)
        go_ret
        exact ⟨ret_bool hv.out.symm, hb2⟩
      by_cases h8 : 8 < c
      · have hv := Lib.hid (hbad.out (va_gt h8))
        go_wp2_with (go_at_call 134; refine (isVariableName_any _ _ hnsz).mono ?_; rintro e w3 ⟨rfl, rfl⟩)
        go_ret
        exact ⟨ret_bool hv.out.symm, hb2⟩
      have hsn := Lib.hid (hgood.out (va_t ha ((lvB_iff c).2 ⟨by omega, by omega⟩)))
      go_wp2_with (go_at_call 134; refine (isVariableName_any _ _ hnsz).mono ?_; rintro e w3 ⟨rfl, rfl⟩)
      go_roundw
      case rel => first | exact ⟨_, cnt2, hrg2, hsn.out, hb2⟩ | ((repeat apply Exists.intro); exact ⟨⟨_, cnt2, hrg2, hsn.out, hb2⟩, rfl⟩)
      case measure => rw [hrg2.left_eq, hrg.left_eq]; exact hlt
end Go.Proofs.Ytgkaalonmkcclab
