import Derived.Test.YtpmbenedeakieabDoorRecI
import Derived.Test.YtpmbenedeakieabDoorRecL
import Derived.Test.YtpmbenedeakieabDoorText
import Derived.Test.YtpmbenedeakieabDoorTxt
import Derived.Lib.Builder
import Derived.Lib.AppendStr
import Derived.Lib.UnsafeStr
import Derived.Laws.Externs
import Derived.Lib.LaidTab
import Derived.Deep.RegionLaw
namespace Go.Proofs.YtpmbenedeakieabDoor
open Go.RowKit
set_option maxRecDepth 100000

theorem numZ_one {i : Nat} (h : i < 10) : (numZ i).size = 1 := by rw [numZ_small (by omega) (by omega), byteT_len]
theorem numZ_2d {i : Nat} (h : i < 100) : (numZ i).size ≤ 2 := by
  by_cases h1 : i < 10
  · rw [numZ_one h1]; omega
  · rw [numZ_big (by omega), numZ_small (by omega) (by omega), ByteArray.size_append, byteT_len, byteT_len]; omega
theorem numZ_3d {i : Nat} (h : i < 1000) : (numZ i).size ≤ 3 := by
  by_cases h1 : i < 100
  · have := numZ_2d h1; omega
  · rw [numZ_big (by omega), show (i : Int) / 10 = ((i / 10 : Nat) : Int) by omega, ByteArray.size_append, byteT_len]
    have := numZ_2d (i := i / 10) (by omega)
    omega
/-- The beginning of a record's text; its values; the text of a record; of data. -/
def rhT (a h : Int) : ByteArray := numZ a ++ ⟨#[32]⟩ ++ numZ h ++ ⟨#[32]⟩
def vlL (L : List Int) : List UInt8 := L.flatMap fun v => (numZ v).data.toList
def rcL (q : RV) : List UInt8 := (rhT q.1 q.2.1).data.toList ++ vlL q.2.2 ++ [10]
def dtL (R : List RV) : List UInt8 := R.flatMap rcL
def dtT (R : List RV) : ByteArray := ⟨(dtL R).toArray⟩
/-- The text so far. -/
def dpT (R : List RV) (q : RV) (k : Nat) : ByteArray := ⟨(dtL R ++ (rhT q.1 q.2.1).data.toList ++ vlL (q.2.2.take k)).toArray⟩
theorem ba_size (l : List UInt8) : (⟨l.toArray⟩ : ByteArray).size = l.length := List.size_toArray ..
theorem ba_list (s : ByteArray) : s.data.toList.length = s.size := Array.length_toList
theorem dp_start (R : List RV) (q : RV) : dtT R ++ rhT q.1 q.2.1 = dpT R q 0 := by
  unfold dtT dpT
  apply ByteArray.ext
  simp [vlL]
theorem dp_next {R : List RV} {q : RV} {k : Nat} {v : Int} (h : q.2.2[k]? = some v) : dpT R q k ++ numZ v = dpT R q (k + 1) := by
  unfold dpT
  rw [take_snoc h]
  apply ByteArray.ext
  simp [vlL]
theorem dp_end {R : List RV} {i : Nat} {q : RV} (h : R[i]? = some q) : dpT (R.take i) q q.2.2.length ++ ⟨#[10]⟩ = dtT (R.take (i + 1)) := by
  unfold dpT dtT
  rw [take_snoc h, List.take_length]
  apply ByteArray.ext
  simp [dtL, rcL]
theorem rh_size {a h : Int} (ha : 0 ≤ a ∧ a ≤ 29) (hh : 0 ≤ h ∧ h ≤ 999) : (rhT a h).size ≤ 7 ∧ (numZ a).size ≤ 2 ∧ (numZ h).size ≤ 3 := by
  have h1 := numZ_2d (i := a.toNat) (by omega)
  have h2 := numZ_3d (i := h.toNat) (by omega)
  rw [show ((a.toNat : Nat) : Int) = a by omega] at h1
  rw [show ((h.toNat : Nat) : Int) = h by omega] at h2
  refine ⟨?_, h1, h2⟩
  unfold rhT
  rw [ByteArray.size_append, ByteArray.size_append, ByteArray.size_append, show (⟨#[32]⟩ : ByteArray).size = 1 from rfl]
  omega
theorem vl_size {L : List Int} (h : ∀ v ∈ L, 0 ≤ v ∧ v ≤ 7) : (vlL L).length = L.length := by
  unfold vlL
  induction L with
  | nil => rfl
  | cons a r ih =>
    have ha := h a (by simp)
    rw [List.flatMap_cons, List.length_append, ih (fun v hv => h v (List.mem_cons_of_mem _ hv)), ba_list]
    have := numZ_one (i := a.toNat) (by omega)
    rw [show ((a.toNat : Nat) : Int) = a by omega] at this
    rw [this, List.length_cons]
    omega
/-- What is known of a record of a schema. -/
theorem rok_all {S : List (ByteArray × Int)} {q : RV} (hs : schB S = true) (h : rokB S q = true) : (0 ≤ q.1 ∧ q.1 ≤ 29) ∧ (0 ≤ q.2.1 ∧ q.2.1 ≤ 999) ∧ q.2.2.length ≤ 6 ∧ ∀ v ∈ q.2.2, 0 ≤ v ∧ v ≤ 7 := by
  obtain ⟨a, b, c, d, f⟩ := rokB_get h
  have hl := fit_len f
  have hsl := (schB_len hs).2
  refine ⟨⟨a, b⟩, ⟨c, d⟩, by omega, fun v hv => ?_⟩
  obtain ⟨j, hj, rfl⟩ := List.getElem_of_mem hv
  have hS : S[j]? = some (S[j].1, S[j].2) := List.getElem?_eq_getElem (by omega)
  obtain ⟨l1, l2⟩ := schB_lv hs hS
  obtain ⟨e1, e2⟩ := fit_get f hS (List.getElem?_eq_getElem hj)
  omega
theorem rc_size {S : List (ByteArray × Int)} {q : RV} (hs : schB S = true) (h : rokB S q = true) : (rcL q).length ≤ 14 := by
  obtain ⟨h1, h2, h3, h4⟩ := rok_all hs h
  unfold rcL
  rw [List.length_append, List.length_append, vl_size h4, ba_list]
  have := (rh_size h1 h2).1
  simp
  omega
theorem dt_size {S : List (ByteArray × Int)} {R : List RV} (hs : schB S = true) (h : dokB S R = true) (i : Nat) : (dtL (R.take i)).length ≤ 560 := by
  have hl := dokB_len h
  have key : ∀ M : List RV, (∀ q ∈ M, rokB S q = true) → (dtL M).length ≤ 14 * M.length := by
    intro M hM
    unfold dtL
    induction M with
    | nil => simp
    | cons a r ih =>
      have h1 := rc_size hs (hM a (by simp))
      have h2 := ih (fun q hq => hM q (List.mem_cons_of_mem _ hq))
      rw [List.flatMap_cons, List.length_append, List.length_cons]
      omega
  have := key (R.take i) (fun q hq => dokB_mem h (List.mem_of_mem_take hq))
  rw [List.length_take] at this
  omega
theorem dp_size {S : List (ByteArray × Int)} {R : List RV} {q : RV} (hs : schB S = true) (h : dokB S R = true) (hq : rokB S q = true) (i k : Nat) : (dpT (R.take i) q k).size ≤ 600 := by
  obtain ⟨h1, h2, h3, h4⟩ := rok_all hs hq
  have hd := dt_size hs h i
  unfold dpT
  rw [ba_size, List.length_append, List.length_append, vl_size (fun v hv => h4 v (List.mem_of_mem_take hv)), ba_list, List.length_take]
  have := (rh_size h1 h2).1
  omega

end Go.Proofs.YtpmbenedeakieabDoor

namespace Go.Proofs.YtpmbenedeakieabDoor
open Go.RowKit
set_option maxRecDepth 100000

theorem Tryd.infoByte : (Tryd.prog.info? 5).map (fun i => (i.zero, i.size, i.bytes)) = some (some (.int .u8 0), 1, 1) := by kernel_rfl
theorem sizeBld : (Tryd.prog.info? 78).map (·.size) = some 2 := by kernel_rfl
theorem liesBld : liesAt Tryd.prog Tryd.prog.depth 78 (2 / Tryd.prog.cellsOf 78) 0 78 1 = true := by kernel_rfl
abbrev IsBd (B b : Nat) (bs : List Value) (w : World) : Prop := Lib.IsBuilder 78 5 B b bs w

set_option maxHeartbeats 1000000 in
theorem copyCheck_used (b : Nat) (w : World) (h0 : w.cell? ⟨b, 0, none⟩ = some (.pointer (some ⟨b, 0, none⟩))) :
    Calls Tryd.prog 75 #[.pointer (some ⟨b, 0, none⟩)] w fun e w' => e = .returned (.tuple #[]) ∧ w' = w := by
  obtain ⟨j, hj, _⟩ := Option.map_eq_some_iff.1 sizeBld
  go_enter Tryd.func75, Tryd.ntmps75
  go_wp2
  rw [Lib.run_neq_ptr_same w _ Tryd.underlying75 hj]
  go_wp2
  refine bodyPost_end (v := .tuple #[]) (by simp [results, Tryd.results75, go_sem]) rfl ?_
  exact ⟨rfl, rfl⟩
set_option maxHeartbeats 1000000 in
theorem copyCheck_fresh (b : Nat) (w : World) (h0 : w.cell? ⟨b, 0, none⟩ = some (.pointer none)) (hsh : w.shape? b = some (78, 2)) (hfz : w.frozen? ⟨b, 0, none⟩ = false) :
    Calls Tryd.prog 75 #[.pointer (some ⟨b, 0, none⟩)] w fun e w' => e = .returned (.tuple #[]) ∧ w' = w.setCell ⟨b, 0, none⟩ (.pointer (some ⟨b, 0, none⟩)) := by
  obtain ⟨j, hj, hjs⟩ := Option.map_eq_some_iff.1 sizeBld
  go_enter Tryd.func75, Tryd.ntmps75
  go_wp2
  rw [Lib.run_to_unsafe w ⟨b, 0, none⟩ Tryd.underlying75 Tryd.underlying123 hj (by rw [hjs]; decide) hsh (Nat.zero_lt_succ 1)]
  simp only [Result.andThen]
  rw [Oper.upon_value]
  go_wp2
  rw [run_callFunc_extern Tryd.func92 (by kernel_rfl) (by kernel_rfl) (by kernel_rfl) (e := Extern.AbiNoEscape.same) (by kernel_rfl)]
  rw [Lib.run_noEscape]
  simp only [Result.andThen]
  rw [Oper.upon_value]
  go_wp2
  rw [Lib.run_from_unsafe w ⟨b, 0, none⟩ Tryd.underlying123 Tryd.underlying75 hj hsh liesBld]
  simp only [Result.andThen]
  rw [Oper.upon_value]
  go_wp2
  refine bodyPost_end (v := .tuple #[]) (by simp [results, Tryd.results75, go_sem]) rfl ?_
  exact ⟨rfl, rfl⟩
theorem wb_setN {w : World} {g b o : Nat} {t : TypeId} {cs : Array Value} (h : Wb w g t cs) (hne : g ≠ b) (u : Value) : Wb (w.setCell ⟨b, o, none⟩ u) g t cs := by
  have hb : b ≠ g := fun e => hne e.symm
  unfold Wb at h ⊢
  simp [World.setCell, Array.getElem?_modify, h, hb]
/-- Blocks that are neither the builder nor bytes are as they were. -/
def Kept (b : Nat) (w w' : World) : Prop := ∀ k t cs, Wb w k t cs → t ≠ 5 → k ≠ b → Wb w' k t cs
theorem copyCheck_any (B b : Nat) (bs : List Value) (w : World) (h : IsBd B b bs w) :
    Calls Tryd.prog 75 #[.pointer (some ⟨b, 0, none⟩)] w fun e w' => e = .returned (.tuple #[]) ∧ (Lib.BuilderAt 78 5 B b (.pointer (some ⟨b, 0, none⟩)) bs w' ∧ Below B w w' ∧ Kept b w w') := by
  rcases h with h | h
  · refine (copyCheck_fresh b w h.cell0 h.shape h.frozen0).mono ?_
    rintro e w' ⟨rfl, rfl⟩
    exact ⟨rfl, h.used _, (Below.refl B w).setCell (p := ⟨b, 0, none⟩) h.1 _, fun k t cs hk _ hne => wb_setN hk hne _⟩
  · refine (copyCheck_used b w h.cell0).mono ?_
    rintro e w' ⟨rfl, rfl⟩
    exact ⟨rfl, h, Below.refl B _, fun k t cs hk _ _ => hk⟩
set_option maxHeartbeats 2000000 in
theorem writeString_any (B b : Nat) (bs : List Value) (s : ByteArray) (w : World) (h : IsBd B b bs w) (hlen : bs.length + s.size ≤ 1000000000) (hBw : B ≤ w.heap.size) :
    Calls Tryd.prog 45 #[.pointer (some ⟨b, 0, none⟩), .string s] w fun e w' => e = .returned (.tuple #[.int .i64 s.size, .nilIface]) ∧ IsBd B b (bs ++ Lib.strCells s) w' ∧ Below B w w' ∧ Kept b w w' := by
  obtain ⟨i0, hi, hz0, hz1, hz2⟩ := info_parts Tryd.infoByte
  go_enter Tryd.func45, Tryd.ntmps45
  go_wp2_with fail
  refine (copyCheck_any B b bs _ h).mono ?_
  rintro e w1 ⟨rfl, h1, hb1, hkp1⟩
  obtain ⟨hB, v, hbk, hown, hne⟩ := h1
  have hkp1 := Lib.hid hkp1
  have c0 : w1.cell? ⟨b, 0, none⟩ = some (.pointer (some ⟨b, 0, none⟩)) := by rw [Lib.cell_of_heap hbk]; rfl
  have c1 : w1.cell? ⟨b, 1, none⟩ = some v := by rw [Lib.cell_of_heap hbk]; rfl
  go_wp2_with (at_builtin; refine Lib.wpList_append_own_string _ rfl _ _ 76 9 rfl B 5 i0 Tryd.underlying76 Tryd.underlying9 hi hz0 hz1 hz2 _ _ _ rfl hown s rfl ?c3 ?c4 ?c5 ?_)
  case c3 => unfold maxLen; omega
  case c4 => omega
  case c5 => have := hb1.size; omega
  intro v' w2 hown' hgrow _
  have hlt : b < w1.heap.size := by
    rcases Nat.lt_or_ge b w1.heap.size with h' | h'
    · exact h'
    · simp [Array.getElem?_eq_none h'] at hbk
  have hb2 : w2.heap[b]? = some (.cells #[.pointer (some ⟨b, 0, none⟩), v] 78 (0, 0)) := by
    rw [hgrow.block b hlt (fun e => hne e.symm)]
    exact hbk
  have hkp2 := Lib.hid (fun k t cs hk ht hne => (hgrow.block k hk.inside (fun e => Lib.ownBlock_ne hown hk ht e.symm)).trans hk : ∀ k t cs, Wb w1 k t cs → t ≠ 5 → k ≠ b → Wb w2 k t cs)
  have d0 : w2.cell? ⟨b, 0, none⟩ = some (.pointer (some ⟨b, 0, none⟩)) := by rw [Lib.cell_of_heap hb2]; rfl
  have d1 : w2.cell? ⟨b, 1, none⟩ = some v := by rw [Lib.cell_of_heap hb2]; rfl
  have f1 : w2.frozen? ⟨b, 1, none⟩ = false := Lib.frozen_of_heap hb2 1
  obtain ⟨ao, n', cap, rfl⟩ : ∃ ao n' cap, v' = .slice ao n' cap := by
    rcases hown'.2 with ⟨hv, _⟩ | ⟨g, cap, cur, hv, _⟩
    · exact ⟨_, _, _, hv⟩
    · exact ⟨_, _, _, hv⟩
  go_wp2
  go_ret2
  refine ⟨rfl, Or.inr ?_, ?_, ?_⟩
  · exact Lib.BuilderAt.put (T := 78) (e := 5) hB hb2 (bs' := bs ++ Lib.strCells s) (by simpa [Lib.strCells_length] using hown') (by decide)
  · exact (hb1.grown hgrow (by have := hb1.size; omega) (fun k hk => (hown.lt k hk).1)).setCell (p := ⟨b, 1, none⟩) hB _
  · exact fun k t cs hk ht hne => wb_setN (hkp2.out k t cs (hkp1.out k t cs hk ht hne) ht hne) hne _
/-- A new builder. -/
theorem isBd_new (w : World) (B : Nat) (hB : B ≤ w.heap.size) : IsBd B w.heap.size [] (w.alloc (.cells #[.pointer none, .slice none 0 0] 78)) :=
  Or.inl ⟨hB, .slice none 0 0, heap_alloc_new w _, World.ownsRow_nil _ _ _ _, by simp [Value.ownBlock]⟩
/-- It is kept while others below or above it are made. -/
theorem IsBd.below {B b : Nat} {bs : List Value} {w w' : World} (h : IsBd B b bs w) (hb : Below w.heap.size w w') : IsBd B b bs w' := by
  rcases h with h | h
  · left
    obtain ⟨h1, v, h2, h3, h4⟩ := h
    exact ⟨h1, v, (hb.block b (Array.getElem?_eq_some_iff.1 h2).1).trans h2, own_below h3 hb, h4⟩
  · right
    obtain ⟨h1, v, h2, h3, h4⟩ := h
    exact ⟨h1, v, (hb.block b (Array.getElem?_eq_some_iff.1 h2).1).trans h2, own_below h3 hb, h4⟩
end Go.Proofs.YtpmbenedeakieabDoor

namespace Go.Proofs.YtpmbenedeakieabDoor
open Go.RowKit
set_option maxRecDepth 100000

/-- The library's table of powers of ten lies in its variable. -/
def PowTab (w : World) : Prop := Lib.TabIs Tryd.prog w "internal/strconv.uint64pow10" .u64 Lib.pow10Tab ∧ 0 < w.heap.size
theorem gPow : Tryd.prog.globalNamed "internal/strconv.uint64pow10" = some 0 := by kernel_rfl
theorem PowTab.below {w w' : World} (h : PowTab w) (hb : Below w.heap.size w w') : PowTab w' := ⟨var?_below hb gPow h.2 h.1, Nat.lt_of_lt_of_le h.2 hb.size⟩
theorem below_grow (w : World) (k : Nat) (os : Array Obj) : Below w.heap.size w (Sort.grow (w.drewN k) os) := by
  refine ⟨rfl, rfl, rfl, ?_, fun i hi => ?_⟩
  · rw [Sort.size_grow]
    exact Nat.le_add_right _ _
  · show ((w.drewN k).heap ++ os)[i]? = w.heap[i]?
    have e : (w.drewN k).heap = w.heap := rfl
    rw [e, Array.getElem?_append_left hi]
theorem itoa_any (n : Int) (w : World) (h0 : -9223372036854775808 ≤ n) (h1 : n ≤ 9223372036854775807) (hP : PowTab w) :
    Calls Tryd.prog 50 #[.int .i64 n] w fun e w' => e = .returned (.string (numI n)) ∧ Below w.heap.size w w' :=
  (Tryd.strconv_Itoa n h0 h1 w hP.1).mono fun e w' ⟨he, k, os, hw⟩ => ⟨he, by subst hw; exact below_grow w k os⟩

/-- What FracText gives, part by part. -/
def ftT (n d : Int) : ByteArray := if fOK n d then frT n d else ⟨#[]⟩
theorem ret_sb {a b : ByteArray} {p q : Bool} (h : a = b) (k : p = q) : Ending.returned (.tuple #[.string a, .bool p]) = .returned (.tuple #[.string b, .bool q]) := by rw [h, k]

end Go.Proofs.YtpmbenedeakieabDoor

namespace Go.Proofs.YtpmbenedeakieabDoor
open Go.RowKit
set_option maxRecDepth 100000

theorem itoaZ (n : Int) (w : World) (h0 : 0 ≤ n) (h1 : n ≤ 1000000) (hP : PowTab w) :
    Calls Tryd.prog 50 #[.int .i64 n] w fun e w' => e = .returned (.string (numZ n)) ∧ Below w.heap.size w w' := by
  have h := itoa_any n w (by omega) (by omega) hP
  rw [numI_pos h0] at h
  exact h
/-- What the builder holds. -/
def bC (s : ByteArray) : List Value := Lib.byteCells s.data.toList
theorem bC_len (s : ByteArray) : (bC s).length = s.size := by unfold bC; rw [Lib.byteCells_length]; exact ba_list s
theorem bC_app (s t : ByteArray) : bC s ++ Lib.strCells t = bC (s ++ t) := by
  unfold bC
  rw [Lib.strCells_eq, ← Lib.byteCells_append]
  simp
theorem bC_nil : bC ⟨#[]⟩ = [] := rfl
/-- A text that is written behind a text. -/
theorem wstr_any (B b : Nat) (s t : ByteArray) (w : World) (h : IsBd B b (bC s) w) (hl : s.size ≤ 100000) (hl2 : t.size ≤ 100000) (hBw : B ≤ w.heap.size) :
    Calls Tryd.prog 45 #[.pointer (some ⟨b, 0, none⟩), .string t] w fun e w' => (∃ k, e = .returned (.tuple #[.int .i64 k, .nilIface])) ∧ IsBd B b (bC (s ++ t)) w' ∧ Below B w w' ∧ Kept b w w' := by
  have hm := writeString_any B b (bC s) t w h (by rw [bC_len]; omega) hBw
  rw [bC_app] at hm
  exact hm.mono fun e w' ⟨h1, h2⟩ => ⟨⟨_, h1⟩, h2⟩
theorem bstr_any (B b : Nat) (s : ByteArray) (w : World) (h : IsBd B b (bC s) w) (hBw : B ≤ w.heap.size) :
    Calls Tryd.prog 46 #[.pointer (some ⟨b, 0, none⟩)] w fun e w' => e = .returned (.string s) ∧ Below B w w' := by
  have hm := Tryd.Builder_String_any B b s.data.toList w h hBw
  exact hm

/-- What DataText gives. -/
def dtR (S : List (ByteArray × Int)) (R : List RV) : ByteArray := if idB S R then dtT R else ⟨#[]⟩
theorem ret_sbD {a b : ByteArray} {p q : Bool} (h : a = b) (k : p = q) : Ending.returned (.tuple #[.string a, .bool p]) = .returned (.tuple #[.string b, .bool q]) := by rw [h, k]
theorem idB_f1 {S : List (ByteArray × Int)} {R : List RV} (h : schB S = false) : idB S R = false := by unfold idB; rw [h]; rfl
theorem idB_f2 {S : List (ByteArray × Int)} {R : List RV} (h : dokB S R = false) : idB S R = false := by unfold idB; rw [h, Bool.and_false]
theorem idB_t {S : List (ByteArray × Int)} {R : List RV} (h : schB S = true) (k : dokB S R = true) : idB S R = true := by unfold idB; rw [h, k]; rfl
end Go.Proofs.YtpmbenedeakieabDoor
