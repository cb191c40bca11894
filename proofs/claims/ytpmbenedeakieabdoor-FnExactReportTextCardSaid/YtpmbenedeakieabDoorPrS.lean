import Derived.Test.YtpmbenedeakieabDoorRecI
import Derived.Test.YtpmbenedeakieabDoorRecL
import Derived.Test.YtpmbenedeakieabDoorText
import Derived.Test.YtpmbenedeakieabDoorTxt
import Derived.Lib.Builder
import Derived.Lib.AppendStr
import Derived.Lib.UnsafeStr
import Derived.Laws.Externs
import Derived.Lib.LaidTab
import Derived.Deep.RegionLaw
import Derived.Test.YtpmbenedeakieabDoorPrR
import Derived.LaidMore
namespace Go.Proofs.YtpmbenedeakieabDoor
open Go.RowKit
set_option maxRecDepth 100000

theorem numZ_one {i : Nat} (h : i < 10) : (numZ i).size = 1 := by rw [numZ_small (by omega) (by omega), byteT_len]
theorem numZ_2d {i : Nat} (h : i < 100) : (numZ i).size ≤ 2 := by
  by_cases h1 : i < 10
  · rw [numZ_one h1]; omega
  · rw [numZ_big (by omega), numZ_small (by omega) (by omega), ByteArray.size_append, byteT_len, byteT_len]; omega
theorem numZ_3d {i : Nat} (h : i < 1000) : (numZ i).size ≤ 3 := by
  by_cases h1 : i < 100
  · have := numZ_2d h1; omega
  · rw [numZ_big (by omega), show (i : Int) / 10 = ((i / 10 : Nat) : Int) by omega, ByteArray.size_append, byteT_len]
    have := numZ_2d (i := i / 10) (by omega)
    omega
/-- The beginning of a record's text; its values; the text of a record; of data. -/
def rhT (a h : Int) : ByteArray := numZ a ++ ⟨#[32]⟩ ++ numZ h ++ ⟨#[32]⟩
def vlL (L : List Int) : List UInt8 := L.flatMap fun v => (numZ v).data.toList
def rcL (q : RV) : List UInt8 := (rhT q.1 q.2.1).data.toList ++ vlL q.2.2 ++ [10]
def dtL (R : List RV) : List UInt8 := R.flatMap rcL
def dtT (R : List RV) : ByteArray := ⟨(dtL R).toArray⟩
/-- The text so far. -/
def dpT (R : List RV) (q : RV) (k : Nat) : ByteArray := ⟨(dtL R ++ (rhT q.1 q.2.1).data.toList ++ vlL (q.2.2.take k)).toArray⟩
theorem ba_size (l : List UInt8) : (⟨l.toArray⟩ : ByteArray).size = l.length := List.size_toArray ..
theorem ba_list (s : ByteArray) : s.data.toList.length = s.size := Array.length_toList
theorem dp_start (R : List RV) (q : RV) : dtT R ++ rhT q.1 q.2.1 = dpT R q 0 := by
  unfold dtT dpT
  apply ByteArray.ext
  simp [vlL]
theorem dp_next {R : List RV} {q : RV} {k : Nat} {v : Int} (h : q.2.2[k]? = some v) : dpT R q k ++ numZ v = dpT R q (k + 1) := by
  unfold dpT
  rw [take_snoc h]
  apply ByteArray.ext
  simp [vlL]
theorem dp_end {R : List RV} {i : Nat} {q : RV} (h : R[i]? = some q) : dpT (R.take i) q q.2.2.length ++ ⟨#[10]⟩ = dtT (R.take (i + 1)) := by
  unfold dpT dtT
  rw [take_snoc h, List.take_length]
  apply ByteArray.ext
  simp [dtL, rcL]
theorem rh_size {a h : Int} (ha : 0 ≤ a ∧ a ≤ 29) (hh : 0 ≤ h ∧ h ≤ 999) : (rhT a h).size ≤ 7 ∧ (numZ a).size ≤ 2 ∧ (numZ h).size ≤ 3 := by
  have h1 := numZ_2d (i := a.toNat) (by omega)
  have h2 := numZ_3d (i := h.toNat) (by omega)
  rw [show ((a.toNat : Nat) : Int) = a by omega] at h1
  rw [show ((h.toNat : Nat) : Int) = h by omega] at h2
  refine ⟨?_, h1, h2⟩
  unfold rhT
  rw [ByteArray.size_append, ByteArray.size_append, ByteArray.size_append, show (⟨#[32]⟩ : ByteArray).size = 1 from rfl]
  omega
theorem vl_size {L : List Int} (h : ∀ v ∈ L, 0 ≤ v ∧ v ≤ 7) : (vlL L).length = L.length := by
  unfold vlL
  induction L with
  | nil => rfl
  | cons a r ih =>
    have ha := h a (by simp)
    rw [List.flatMap_cons, List.length_append, ih (fun v hv => h v (List.mem_cons_of_mem _ hv)), ba_list]
    have := numZ_one (i := a.toNat) (by omega)
    rw [show ((a.toNat : Nat) : Int) = a by omega] at this
    rw [this, List.length_cons]
    omega
/-- What is known of a record of a schema. -/
theorem rok_all {S : List (ByteArray × Int)} {q : RV} (hs : schB S = true) (h : rokB S q = true) : (0 ≤ q.1 ∧ q.1 ≤ 29) ∧ (0 ≤ q.2.1 ∧ q.2.1 ≤ 999) ∧ q.2.2.length ≤ 6 ∧ ∀ v ∈ q.2.2, 0 ≤ v ∧ v ≤ 7 := by
  obtain ⟨a, b, c, d, f⟩ := rokB_get h
  have hl := fit_len f
  have hsl := (schB_len hs).2
  refine ⟨⟨a, b⟩, ⟨c, d⟩, by omega, fun v hv => ?_⟩
  obtain ⟨j, hj, rfl⟩ := List.getElem_of_mem hv
  have hS : S[j]? = some (S[j].1, S[j].2) := List.getElem?_eq_getElem (by omega)
  obtain ⟨l1, l2⟩ := schB_lv hs hS
  obtain ⟨e1, e2⟩ := fit_get f hS (List.getElem?_eq_getElem hj)
  omega
theorem rc_size {S : List (ByteArray × Int)} {q : RV} (hs : schB S = true) (h : rokB S q = true) : (rcL q).length ≤ 14 := by
  obtain ⟨h1, h2, h3, h4⟩ := rok_all hs h
  unfold rcL
  rw [List.length_append, List.length_append, vl_size h4, ba_list]
  have := (rh_size h1 h2).1
  simp
  omega
theorem dt_size {S : List (ByteArray × Int)} {R : List RV} (hs : schB S = true) (h : dokB S R = true) (i : Nat) : (dtL (R.take i)).length ≤ 560 := by
  have hl := dokB_len h
  have key : ∀ M : List RV, (∀ q ∈ M, rokB S q = true) → (dtL M).length ≤ 14 * M.length := by
    intro M hM
    unfold dtL
    induction M with
    | nil => simp
    | cons a r ih =>
      have h1 := rc_size hs (hM a (by simp))
      have h2 := ih (fun q hq => hM q (List.mem_cons_of_mem _ hq))
      rw [List.flatMap_cons, List.length_append, List.length_cons]
      omega
  have := key (R.take i) (fun q hq => dokB_mem h (List.mem_of_mem_take hq))
  rw [List.length_take] at this
  omega
theorem dp_size {S : List (ByteArray × Int)} {R : List RV} {q : RV} (hs : schB S = true) (h : dokB S R = true) (hq : rokB S q = true) (i k : Nat) : (dpT (R.take i) q k).size ≤ 600 := by
  obtain ⟨h1, h2, h3, h4⟩ := rok_all hs hq
  have hd := dt_size hs h i
  unfold dpT
  rw [ba_size, List.length_append, List.length_append, vl_size (fun v hv => h4 v (List.mem_of_mem_take hv)), ba_list, List.length_take]
  have := (rh_size h1 h2).1
  omega

end Go.Proofs.YtpmbenedeakieabDoor

namespace Go.Proofs.YtpmbenedeakieabDoor
open Go.RowKit
set_option maxRecDepth 100000

theorem Tryd.infoByte : (Tryd.prog.info? 5).map (fun i => (i.zero, i.size, i.bytes)) = some (some (.int .u8 0), 1, 1) := by kernel_rfl
theorem sizeBld : (Tryd.prog.info? 78).map (·.size) = some 2 := by kernel_rfl
theorem liesBld : liesAt Tryd.prog Tryd.prog.depth 78 (2 / Tryd.prog.cellsOf 78) 0 78 1 = true := by kernel_rfl
abbrev IsBd (B b : Nat) (bs : List Value) (w : World) : Prop := Lib.IsBuilder 78 5 B b bs w

set_option maxHeartbeats 1000000 in
theorem copyCheck_used (b : Nat) (w : World) (h0 : w.cell? ⟨b, 0, none⟩ = some (.pointer (some ⟨b, 0, none⟩))) :
    Calls Tryd.prog 75 #[.pointer (some ⟨b, 0, none⟩)] w fun e w' => e = .returned (.tuple #[]) ∧ w' = w := by
  obtain ⟨j, hj, _⟩ := Option.map_eq_some_iff.1 sizeBld
  go_enter Tryd.func75, Tryd.ntmps75
  go_wp2
  rw [Lib.run_neq_ptr_same w _ Tryd.underlying75 hj]
  go_wp2
  refine bodyPost_end (v := .tuple #[]) (by simp [results, Tryd.results75, go_sem]) rfl ?_
  exact ⟨rfl, rfl⟩
set_option maxHeartbeats 1000000 in
theorem copyCheck_fresh (b : Nat) (w : World) (h0 : w.cell? ⟨b, 0, none⟩ = some (.pointer none)) (hsh : w.shape? b = some (78, 2)) (hfz : w.frozen? ⟨b, 0, none⟩ = false) :
    Calls Tryd.prog 75 #[.pointer (some ⟨b, 0, none⟩)] w fun e w' => e = .returned (.tuple #[]) ∧ w' = w.setCell ⟨b, 0, none⟩ (.pointer (some ⟨b, 0, none⟩)) := by
  obtain ⟨j, hj, hjs⟩ := Option.map_eq_some_iff.1 sizeBld
  go_enter Tryd.func75, Tryd.ntmps75
  go_wp2
  rw [Lib.run_to_unsafe w ⟨b, 0, none⟩ Tryd.underlying75 Tryd.underlying123 hj (by rw [hjs]; decide) hsh (Nat.zero_lt_succ 1)]
  simp only [Result.andThen]
  rw [Oper.upon_value]
  go_wp2
  rw [run_callFunc_extern Tryd.func92 (by kernel_rfl) (by kernel_rfl) (by kernel_rfl) (e := Extern.AbiNoEscape.same) (by kernel_rfl)]
  rw [Lib.run_noEscape]
  simp only [Result.andThen]
  rw [Oper.upon_value]
  go_wp2
  rw [Lib.run_from_unsafe w ⟨b, 0, none⟩ Tryd.underlying123 Tryd.underlying75 hj hsh liesBld]
  simp only [Result.andThen]
  rw [Oper.upon_value]
  go_wp2
  refine bodyPost_end (v := .tuple #[]) (by simp [results, Tryd.results75, go_sem]) rfl ?_
  exact ⟨rfl, rfl⟩
theorem wb_setN {w : World} {g b o : Nat} {t : TypeId} {cs : Array Value} (h : Wb w g t cs) (hne : g ≠ b) (u : Value) : Wb (w.setCell ⟨b, o, none⟩ u) g t cs := by
  have hb : b ≠ g := fun e => hne e.symm
  unfold Wb at h ⊢
  simp [World.setCell, Array.getElem?_modify, h, hb]
/-- Blocks that are neither the builder nor bytes are as they were. -/
def Kept (b : Nat) (w w' : World) : Prop := ∀ k t cs, Wb w k t cs → t ≠ 5 → k ≠ b → Wb w' k t cs
theorem copyCheck_any (B b : Nat) (bs : List Value) (w : World) (h : IsBd B b bs w) :
    Calls Tryd.prog 75 #[.pointer (some ⟨b, 0, none⟩)] w fun e w' => e = .returned (.tuple #[]) ∧ (Lib.BuilderAt 78 5 B b (.pointer (some ⟨b, 0, none⟩)) bs w' ∧ Below B w w' ∧ Kept b w w') := by
  rcases h with h | h
  · refine (copyCheck_fresh b w h.cell0 h.shape h.frozen0).mono ?_
    rintro e w' ⟨rfl, rfl⟩
    exact ⟨rfl, h.used _, (Below.refl B w).setCell (p := ⟨b, 0, none⟩) h.1 _, fun k t cs hk _ hne => wb_setN hk hne _⟩
  · refine (copyCheck_used b w h.cell0).mono ?_
    rintro e w' ⟨rfl, rfl⟩
    exact ⟨rfl, h, Below.refl B _, fun k t cs hk _ _ => hk⟩
set_option maxHeartbeats 2000000 in
theorem writeString_any (B b : Nat) (bs : List Value) (s : ByteArray) (w : World) (h : IsBd B b bs w) (hlen : bs.length + s.size ≤ 1000000000) (hBw : B ≤ w.heap.size) :
    Calls Tryd.prog 45 #[.pointer (some ⟨b, 0, none⟩), .string s] w fun e w' => e = .returned (.tuple #[.int .i64 s.size, .nilIface]) ∧ IsBd B b (bs ++ Lib.strCells s) w' ∧ Below B w w' ∧ Kept b w w' := by
  obtain ⟨i0, hi, hz0, hz1, hz2⟩ := info_parts Tryd.infoByte
  go_enter Tryd.func45, Tryd.ntmps45
  go_wp2_with fail
  refine (copyCheck_any B b bs _ h).mono ?_
  rintro e w1 ⟨rfl, h1, hb1, hkp1⟩
  obtain ⟨hB, v, hbk, hown, hne⟩ := h1
  have hkp1 := Lib.hid hkp1
  have c0 : w1.cell? ⟨b, 0, none⟩ = some (.pointer (some ⟨b, 0, none⟩)) := by rw [Lib.cell_of_heap hbk]; rfl
  have c1 : w1.cell? ⟨b, 1, none⟩ = some v := by rw [Lib.cell_of_heap hbk]; rfl
  go_wp2_with (at_builtin; refine Lib.wpList_append_own_string _ rfl _ _ 76 9 rfl B 5 i0 Tryd.underlying76 Tryd.underlying9 hi hz0 hz1 hz2 _ _ _ rfl hown s rfl ?c3 ?c4 ?c5 ?_)
  case c3 => unfold maxLen; omega
  case c4 => omega
  case c5 => have := hb1.size; omega
  intro v' w2 hown' hgrow _
  have hlt : b < w1.heap.size := by
    rcases Nat.lt_or_ge b w1.heap.size with h' | h'
    · exact h'
    · simp [Array.getElem?_eq_none h'] at hbk
  have hb2 : w2.heap[b]? = some (.cells #[.pointer (some ⟨b, 0, none⟩), v] 78 (0, 0)) := by
    rw [hgrow.block b hlt (fun e => hne e.symm)]
    exact hbk
  have hkp2 := Lib.hid (fun k t cs hk ht hne => (hgrow.block k hk.inside (fun e => Lib.ownBlock_ne hown hk ht e.symm)).trans hk : ∀ k t cs, Wb w1 k t cs → t ≠ 5 → k ≠ b → Wb w2 k t cs)
  have d0 : w2.cell? ⟨b, 0, none⟩ = some (.pointer (some ⟨b, 0, none⟩)) := by rw [Lib.cell_of_heap hb2]; rfl
  have d1 : w2.cell? ⟨b, 1, none⟩ = some v := by rw [Lib.cell_of_heap hb2]; rfl
  have f1 : w2.frozen? ⟨b, 1, none⟩ = false := Lib.frozen_of_heap hb2 1
  obtain ⟨ao, n', cap, rfl⟩ : ∃ ao n' cap, v' = .slice ao n' cap := by
    rcases hown'.2 with ⟨hv, _⟩ | ⟨g, cap, cur, hv, _⟩
    · exact ⟨_, _, _, hv⟩
    · exact ⟨_, _, _, hv⟩
  go_wp2
  go_ret2
  refine ⟨rfl, Or.inr ?_, ?_, ?_⟩
  · exact Lib.BuilderAt.put (T := 78) (e := 5) hB hb2 (bs' := bs ++ Lib.strCells s) (by simpa [Lib.strCells_length] using hown') (by decide)
  · exact (hb1.grown hgrow (by have := hb1.size; omega) (fun k hk => (hown.lt k hk).1)).setCell (p := ⟨b, 1, none⟩) hB _
  · exact fun k t cs hk ht hne => wb_setN (hkp2.out k t cs (hkp1.out k t cs hk ht hne) ht hne) hne _
/-- A new builder. -/
theorem isBd_new (w : World) (B : Nat) (hB : B ≤ w.heap.size) : IsBd B w.heap.size [] (w.alloc (.cells #[.pointer none, .slice none 0 0] 78)) :=
  Or.inl ⟨hB, .slice none 0 0, heap_alloc_new w _, World.ownsRow_nil _ _ _ _, by simp [Value.ownBlock]⟩
/-- It is kept while others below or above it are made. -/
theorem IsBd.below {B b : Nat} {bs : List Value} {w w' : World} (h : IsBd B b bs w) (hb : Below w.heap.size w w') : IsBd B b bs w' := by
  rcases h with h | h
  · left
    obtain ⟨h1, v, h2, h3, h4⟩ := h
    exact ⟨h1, v, (hb.block b (Array.getElem?_eq_some_iff.1 h2).1).trans h2, own_below h3 hb, h4⟩
  · right
    obtain ⟨h1, v, h2, h3, h4⟩ := h
    exact ⟨h1, v, (hb.block b (Array.getElem?_eq_some_iff.1 h2).1).trans h2, own_below h3 hb, h4⟩
end Go.Proofs.YtpmbenedeakieabDoor

namespace Go.Proofs.YtpmbenedeakieabDoor
open Go.RowKit
set_option maxRecDepth 100000

/-- The library's table of powers of ten lies in its variable. -/
def PowTab (w : World) : Prop := Lib.TabIs Tryd.prog w "internal/strconv.uint64pow10" .u64 Lib.pow10Tab ∧ 0 < w.heap.size
theorem gPow : Tryd.prog.globalNamed "internal/strconv.uint64pow10" = some 0 := by kernel_rfl
theorem PowTab.below {w w' : World} (h : PowTab w) (hb : Below w.heap.size w w') : PowTab w' := ⟨var?_below hb gPow h.2 h.1, Nat.lt_of_lt_of_le h.2 hb.size⟩
theorem below_grow (w : World) (k : Nat) (os : Array Obj) : Below w.heap.size w (Sort.grow (w.drewN k) os) := by
  refine ⟨rfl, rfl, rfl, ?_, fun i hi => ?_⟩
  · rw [Sort.size_grow]
    exact Nat.le_add_right _ _
  · show ((w.drewN k).heap ++ os)[i]? = w.heap[i]?
    have e : (w.drewN k).heap = w.heap := rfl
    rw [e, Array.getElem?_append_left hi]
theorem itoa_any (n : Int) (w : World) (h0 : -9223372036854775808 ≤ n) (h1 : n ≤ 9223372036854775807) (hP : PowTab w) :
    Calls Tryd.prog 50 #[.int .i64 n] w fun e w' => e = .returned (.string (numI n)) ∧ Below w.heap.size w w' :=
  (Tryd.strconv_Itoa n h0 h1 w hP.1).mono fun e w' ⟨he, k, os, hw⟩ => ⟨he, by subst hw; exact below_grow w k os⟩

/-- What FracText gives, part by part. -/
def ftT (n d : Int) : ByteArray := if fOK n d then frT n d else ⟨#[]⟩
theorem ret_sb {a b : ByteArray} {p q : Bool} (h : a = b) (k : p = q) : Ending.returned (.tuple #[.string a, .bool p]) = .returned (.tuple #[.string b, .bool q]) := by rw [h, k]

end Go.Proofs.YtpmbenedeakieabDoor

namespace Go.Proofs.YtpmbenedeakieabDoor
open Go.RowKit
set_option maxRecDepth 100000

theorem itoaZ (n : Int) (w : World) (h0 : 0 ≤ n) (h1 : n ≤ 1000000) (hP : PowTab w) :
    Calls Tryd.prog 50 #[.int .i64 n] w fun e w' => e = .returned (.string (numZ n)) ∧ Below w.heap.size w w' := by
  have h := itoa_any n w (by omega) (by omega) hP
  rw [numI_pos h0] at h
  exact h
/-- What the builder holds. -/
def bC (s : ByteArray) : List Value := Lib.byteCells s.data.toList
theorem bC_len (s : ByteArray) : (bC s).length = s.size := by unfold bC; rw [Lib.byteCells_length]; exact ba_list s
theorem bC_app (s t : ByteArray) : bC s ++ Lib.strCells t = bC (s ++ t) := by
  unfold bC
  rw [Lib.strCells_eq, ← Lib.byteCells_append]
  simp
theorem bC_nil : bC ⟨#[]⟩ = [] := rfl
/-- A text that is written behind a text. -/
theorem wstr_any (B b : Nat) (s t : ByteArray) (w : World) (h : IsBd B b (bC s) w) (hl : s.size ≤ 100000) (hl2 : t.size ≤ 100000) (hBw : B ≤ w.heap.size) :
    Calls Tryd.prog 45 #[.pointer (some ⟨b, 0, none⟩), .string t] w fun e w' => (∃ k, e = .returned (.tuple #[.int .i64 k, .nilIface])) ∧ IsBd B b (bC (s ++ t)) w' ∧ Below B w w' ∧ Kept b w w' := by
  have hm := writeString_any B b (bC s) t w h (by rw [bC_len]; omega) hBw
  rw [bC_app] at hm
  exact hm.mono fun e w' ⟨h1, h2⟩ => ⟨⟨_, h1⟩, h2⟩
theorem bstr_any (B b : Nat) (s : ByteArray) (w : World) (h : IsBd B b (bC s) w) (hBw : B ≤ w.heap.size) :
    Calls Tryd.prog 46 #[.pointer (some ⟨b, 0, none⟩)] w fun e w' => e = .returned (.string s) ∧ Below B w w' := by
  have hm := Tryd.Builder_String_any B b s.data.toList w h hBw
  exact hm

/-- What DataText gives. -/
def dtR (S : List (ByteArray × Int)) (R : List RV) : ByteArray := if idB S R then dtT R else ⟨#[]⟩
theorem ret_sbD {a b : ByteArray} {p q : Bool} (h : a = b) (k : p = q) : Ending.returned (.tuple #[.string a, .bool p]) = .returned (.tuple #[.string b, .bool q]) := by rw [h, k]
theorem idB_f1 {S : List (ByteArray × Int)} {R : List RV} (h : schB S = false) : idB S R = false := by unfold idB; rw [h]; rfl
theorem idB_f2 {S : List (ByteArray × Int)} {R : List RV} (h : dokB S R = false) : idB S R = false := by unfold idB; rw [h, Bool.and_false]
theorem idB_t {S : List (ByteArray × Int)} {R : List RV} (h : schB S = true) (k : dokB S R = true) : idB S R = true := by unfold idB; rw [h, k]; rfl
end Go.Proofs.YtpmbenedeakieabDoor

namespace Go.Proofs.YtpmbenedeakieabDoor
open Go.RowKit
set_option maxRecDepth 100000

theorem wstr_big (B b : Nat) (s t : ByteArray) (w : World) (h : IsBd B b (bC s) w) (hl : s.size ≤ 1000000) (hl2 : t.size ≤ 1000000) (hBw : B ≤ w.heap.size) :
    Calls Tryd.prog 45 #[.pointer (some ⟨b, 0, none⟩), .string t] w fun e w' => (∃ k, e = .returned (.tuple #[.int .i64 k, .nilIface])) ∧ IsBd B b (bC (s ++ t)) w' ∧ Below B w w' ∧ Kept b w w' := by
  have hm := writeString_any B b (bC s) t w h (by rw [bC_len]; omega) hBw
  rw [bC_app] at hm
  exact hm.mono fun e w' ⟨h1, h2⟩ => ⟨⟨_, h1⟩, h2⟩
theorem ret_sbP {a b : ByteArray} {p q : Bool} (h : a = b) (k : p = q) : Ending.returned (.tuple #[.string a, .bool p]) = .returned (.tuple #[.string b, .bool q]) := by rw [h, k]
set_option maxHeartbeats 8000000 in
theorem iRT_x (p y x z v : Option Addr) (c c1 c2 c3 c4 : Nat) (P : List Int) (S : List (ByteArray × Int)) (l : Int) (F W : List Int) (m : Int) (C : List Int) (w : World) (hP : IIn w p P) (hS : SIn w y c1 S) (hT : TIn w x z F W) (hC : IIn w v C) (hPw : PowTab w) :
    Calls Tryd.prog 27 #[.agg #[.slice p P.length c], .slice y S.length c1, .agg #[.int .i64 l, .slice x F.length c2, .slice z W.length c3, .int .i64 m], .slice v C.length c4] w fun e w' => e = .returned (.tuple #[.string (rxR P S l F W m C), .bool (rxB P S l F W m C)]) ∧ Below w.heap.size w w' := by
  have hCh := Lib.hid hC
  have hPwh := Lib.hid hPw
  clear hC hPw
  have hPh := Lib.hid hP
  have hSh := Lib.hid hS
  have hFh := Lib.hid hT.1
  have hWh := Lib.hid hT.2
  clear hP hS hT
  have p1 := Lib.hid (QB.new w p P.length c 33)
  have p2 := Lib.hid (TQ.new (w.alloc (.cells #[.slice p P.length c] 33)) l x F.length c2 z W.length c3 m 37)
  obtain ⟨w0, hw0⟩ : ∃ w0, w0 = (w.alloc (.cells #[.slice p P.length c] 33)).alloc (.cells #[.int .i64 l, .slice x F.length c2, .slice z W.length c3, .int .i64 m] 37) := ⟨_, rfl⟩
  have B0 : Below w.heap.size w w0 := by rw [hw0]; exact (by repeat (first | exact Below.refl _ _ | assumption | refine Below.drew ?_ | refine below_drewN ?_ _ | refine Below.alloc' ?_ _ | (refine Below.setCell ?_ (by first | omega | (simp; done) | (simp; omega) | exact Below.size (by assumption) | exact Nat.le_trans (Below.size (by assumption)) (by simp)) _) | (refine Below.via' ?_ (by assumption)) | (refine Below.alloc ?_ (by first | omega | (simp; done) | (simp; omega) | exact Below.size (by assumption) | exact Nat.le_trans (Below.size (by assumption)) (by simp)) _) | (refine Below.via ?_ (by assumption) (by first | omega | (simp; done) | (simp; omega) | exact Below.size (by assumption) | exact Nat.le_trans (Below.size (by assumption)) (by simp)))))
  have g0 : Hid (QB w0 w.heap.size p P.length c) := by
    rw [hw0]
    exact p1.out.below (show Below (w.alloc (.cells #[.slice p P.length c] 33)).heap.size (w.alloc (.cells #[.slice p P.length c] 33)) _ from (by repeat (first | exact Below.refl _ _ | assumption | refine Below.drew ?_ | refine below_drewN ?_ _ | refine Below.alloc' ?_ _ | (refine Below.setCell ?_ (by first | omega | (simp; done) | (simp; omega) | exact Below.size (by assumption) | exact Nat.le_trans (Below.size (by assumption)) (by simp)) _) | (refine Below.via' ?_ (by assumption)) | (refine Below.alloc ?_ (by first | omega | (simp; done) | (simp; omega) | exact Below.size (by assumption) | exact Nat.le_trans (Below.size (by assumption)) (by simp)) _) | (refine Below.via ?_ (by assumption) (by first | omega | (simp; done) | (simp; omega) | exact Below.size (by assumption) | exact Nat.le_trans (Below.size (by assumption)) (by simp))))))
  have t0 : Hid (TQ w0 (w.heap.size + 1) l x F.length c2 z W.length c3 m) := by
    have h0 := p2.out
    rw [World.size_alloc, ← hw0] at h0
    exact h0
  have z0 : w0.heap.size = w.heap.size + 1 + 1 := by rw [hw0]; simp
  clear p1 p2
  go_enter Tryd.func27, Tryd.ntmps27
  go_wp2_with fail
  rw [← hw0]
  replace hw0 := Lib.hid hw0
  replace z0 := Lib.hid z0
  refine (gridOf_any p y x z _ _ _ _ P S l m F W _ (hPh.out.below B0) (hSh.out.below B0) ⟨hFh.out.below B0, hWh.out.below B0⟩).mono ?_
  rintro e w1 ⟨hb1, h1⟩
  have B1 : Below w.heap.size w w1 := Below.via' B0 hb1
  have g1 := Lib.hid (g0.out.below hb1)
  have t1 := Lib.hid (t0.out.below hb1)
  obtain ⟨ka1, kb1, kc1⟩ := g1.out
  obtain ⟨ta1, tb1, tc1, td1, te1⟩ := t1.out
  try clear ka0 kb0 kc0 ta0 tb0 tc0 td0 te0
  clear hb1
  rcases h1 with ⟨hno, rfl⟩ | ⟨htg, ga, ca, va, rfl, hA, hV, hvl⟩
  · have hv := Lib.hid (rx_no1 (C := C) (tg_no hno))
    have hv2 := Lib.hid (rxR_no hv.out)
    clear hno
    go_wp2
    go_ret2
    exact ⟨ret_sbP hv2.out.symm hv.out.symm, (by repeat (first | exact Below.refl _ _ | assumption | refine Below.drew ?_ | refine below_drewN ?_ _ | refine Below.alloc' ?_ _ | (refine Below.setCell ?_ (by first | omega | (simp; done) | (simp; omega) | exact Below.size (by assumption) | exact Nat.le_trans (Below.size (by assumption)) (by simp)) _) | (refine Below.via' ?_ (by assumption)) | (refine Below.alloc ?_ (by first | omega | (simp; done) | (simp; omega) | exact Below.size (by assumption) | exact Nat.le_trans (Below.size (by assumption)) (by simp)) _) | (refine Below.via ?_ (by assumption) (by first | omega | (simp; done) | (simp; omega) | exact Below.size (by assumption) | exact Nat.le_trans (Below.size (by assumption)) (by simp)))))⟩
  have hpt := Lib.hid (tbS_ok htg.s htg.r)
  have hth := Lib.hid htg
  have hl30 := (ge_len htg.g).2
  have hl := lvL_len P l
  have hc6 := htg.c
  have hAh := Lib.hid hA
  have hPt := Lib.hid hV
  clear htg hA hV
  obtain ⟨W2, hW2⟩ : ∃ W2, W2 = w1.alloc (.cells #[.slice p P.length c, .int .i64 l, .slice x F.length c2, .slice z W.length c3, .int .i64 m, .slice ga (lvL P l).length ca, .slice (some ⟨va, 0, none⟩) (tbS S F).length (tbS S F).length] 69) := ⟨_, rfl⟩
  have hG := g7_of_wb (Wb.new w1 69 #[.slice p P.length c, .int .i64 l, .slice x F.length c2, .slice z W.length c3, .int .i64 m, .slice ga (lvL P l).length ca, .slice (some ⟨va, 0, none⟩) (tbS S F).length (tbS S F).length])
  rw [← hW2] at hG
  have BW : Below w1.heap.size w1 W2 := by rw [hW2]; exact Below.alloc' (Below.refl _ _) _
  replace hG := Lib.hid hG
  replace hW2 := Lib.hid hW2
  go_wp2_with fail
  rw [← hW2.out]
  refine (gcount_any _ _ _ _ _ _ _ _ _ _ _ _ _ _ _ (lvL P l) (tbS S F) _ hpt.out (by omega) (hPt.out.below BW)).mono ?_
  rintro e w2 ⟨rfl, hb2⟩
  have B12 := Below.via' BW hb2
  have B2 := Below.via' B1 B12
  have hG2 := Lib.hid (hG.out.below hb2)
  obtain ⟨j0, j1, j2, j3, j4, j5, j6, jl⟩ := hG2.out
  by_cases hln : (C.length : Int) ≠ ((lvL P l).length : Int) * cnZ (tbS S F)
  · have e1 : ((C.length : Int) != ((lvL P l).length : Int) * cnZ (tbS S F)) = true := by rw [bne_iff_ne]; exact hln
    have hv := Lib.hid (rx_no2 (C := C) (W := W) (m := m) hln)
    have hv2 := Lib.hid (rxR_no hv.out)
    replace hln := Lib.hid hln
    go_wp2
    go_ret2
    exact ⟨ret_sbP hv2.out.symm hv.out.symm, B2⟩
  replace hln := Decidable.of_not_not hln
  have e1 : ((C.length : Int) != ((lvL P l).length : Int) * cnZ (tbS S F)) = false := by rw [hln]; simp
  have hlz := Lib.hid (show (C.length : Int) = tcZ P S l F from hln)
  have hC6 : C.length ≤ 600 := by have := hlz.out; omega
  replace hln := Lib.hid hln
  go_wp2_with fail
  refine (areCellValues_any _ _ C _ (hCh.out.below B2)).mono ?_
  rintro e wN ⟨rfl, rfl⟩
  cases hcv : cvB C
  · have hv := Lib.hid (rx_no3 (P := P) (S := S) (l := l) (F := F) (W := W) (m := m) hcv)
    have hv2 := Lib.hid (rxR_no hv.out)
    replace hcv := Lib.hid hcv
    go_wp2
    go_ret2
    exact ⟨ret_sbP hv2.out.symm hv.out.symm, B2⟩
  have hv := Lib.hid (rx_yes (tg_iff.2 hth.out) hlz.out hcv)
  have hv2 := Lib.hid (rxR_yes hv.out)
  have hcvh := Lib.hid hcv
  have hrs := Lib.hid (rx_size hth.out hcv hlz.out)
  have hN := Lib.hid (isBd_new w2 w2.heap.size (Nat.le_refl _))
  have hbA : Below w2.heap.size w2 (w2.alloc (.cells #[.pointer none, .slice none 0 0] 78)) := Below.alloc' (Below.refl _ _) _
  clear hcv j0 j1 j2 j3 j4 j5 j6 jl hb2
  go_wp2
  go_loopw [38] (fun q wr => ∃ k : Nat, k ≤ C.length ∧ q = .int .i64 k ∧ IsBd w2.heap.size w2.heap.size (bC (rxL P S l F W m C k)) wr ∧ Below w2.heap.size w2 wr) (fun q _ => C.length - (intOf q).toNat)
  case atStart => exact ⟨0, by omega, by go_num, hN.out, hbA⟩
  case round =>
    clear hN hbA
    obtain ⟨k, hk, rfl, hbd, hb⟩ := hrel
    have hbd := Lib.hid hbd
    have hzw := hb.size
    have hBr := Below.via' B2 hb
    by_cases hlt : k < C.length
    · obtain ⟨b5, o5, n, rfl, hb5, hCk, hc0⟩ := (hCh.out.below hBr).2.2.int hlt
      have hbn := cv_at hcvh.out hCk
      have h8 := numI_8 hbn.1 hbn.2
      have hxs := ctX_size hth.out (i := (k : Int)) (by omega) (by have := hlz.out; omega)
      have hr0 := hrs.out k (by omega)
      have hnx := Lib.hid (rxL_next (P := P) (S := S) (l := l) (F := F) (W := W) (m := m) hCk)
      have hk' : (k : Int) < (C.length : Int) := by omega
      have hk0 : (0 : Int) ≤ (k : Int) := by omega
      have d1 : (⟨#[58, 32]⟩ : ByteArray).size = 2 := rfl
      have d2 : (⟨#[10]⟩ : ByteArray).size = 1 := rfl
      have s1 : ¬ 9223372036854775807 < (ctX P S l F W m (k : Int)).size + (⟨#[58, 32]⟩ : ByteArray).size := by rw [d1]; omega
      have s1' : ¬ 9223372036854775807 < (ctX P S l F W m (k : Int)).size + 2 := by omega
      have s2 : ¬ 9223372036854775807 < (ctX P S l F W m (k : Int) ++ ⟨#[58, 32]⟩).size + (numI n).size := by simp only [ByteArray.size_append, d1]; omega
      have s2' : ¬ 9223372036854775807 < (ctX P S l F W m (k : Int)).size + 2 + (numI n).size := by omega
      have s3 : ¬ 9223372036854775807 < ((ctX P S l F W m (k : Int) ++ ⟨#[58, 32]⟩) ++ numI n).size + (⟨#[10]⟩ : ByteArray).size := by simp only [ByteArray.size_append, d1, d2]; omega
      have s3' : ¬ 9223372036854775807 < (ctX P S l F W m (k : Int)).size + 2 + (numI n).size + 1 := by omega
      have hls : (((ctX P S l F W m (k : Int) ++ ⟨#[58, 32]⟩) ++ numI n) ++ ⟨#[10]⟩ : ByteArray).size ≤ 1000000 := by simp only [ByteArray.size_append, d1, d2]; omega
      have hlsh := Lib.hid hls
      have hG5 := hG2.out.below hb
      obtain ⟨j0, j1, j2, j3, j4, j5, j6, jl⟩ := hG5
      have hBr1 := Lib.hid (Below.via' B12 hb)
      have hki := hlz.out
      replace hCk := Lib.hid hCk
      clear d1 d2 hls
      go_wp2_with fail
      refine (textOf_any p x z ga va _ _ _ _ _ P S l F W m (k : Int) _ hth.out (by omega) (by omega) (hAh.out.below hBr1.out) (hPt.out.below hBr1.out) (Nat.lt_of_lt_of_le hvl hBr1.out.size) (Nat.le_refl _)).mono ?_
      rintro e w3 ⟨rfl, hb3⟩
      have hB3 := Below.via' hBr hb3
      replace hki := Lib.hid hki
      go_wp2_with fail
      refine (itoa_any n _ (by omega) (by omega) (hPwh.out.below hB3)).mono ?_
      rintro e w4 ⟨rfl, hb4⟩
      have hbb := Below.via' (Below.via' hb hb3) hb4
      have hbd4 := Lib.hid (hbd.out.below (Below.via' (Below.via' (Below.refl _ _) hb3) hb4))
      go_wp2_with fail
      refine (wstr_big w2.heap.size w2.heap.size _ _ _ hbd4.out (by omega) hlsh.out hbb.size).mono ?_
      rintro e w5 ⟨⟨k9, rfl⟩, hbd5, hb5', -⟩
      rw [← hnx.out] at hbd5
      have hbd5 := Lib.hid hbd5
      have hC5 := Lib.hid (hbb.trans hb5')
      clear hb3 hb4 hb5'
      go_wp2
      go_roundw
      case rel => exact ⟨k + 1, by omega, by go_num, hbd5.out, hC5.out⟩
      case measure => simp [intOf]; omega
    · have hij : k = C.length := by omega
      have hvv := Lib.hid (show rxL P S l F W m C k = rxR P S l F W m C by rw [hij]; exact hv2.out.symm)
      have hk' : ¬ (k : Int) < (C.length : Int) := by omega
      replace hij := Lib.hid hij
      go_wp2_with fail
      refine (bstr_any w2.heap.size w2.heap.size _ _ hbd.out hzw).mono ?_
      rintro e w8 ⟨rfl, hb8⟩
      have hB8 := Lib.hid (B2.trans ((hb.trans hb8).mono B2.size))
      go_wp2
      go_ret2
      exact ⟨ret_sbP hvv.out hv.out.symm, hB8.out⟩
set_option maxHeartbeats 4000000 in
theorem nCells_any (p y x z v : Option Addr) (c c1 c2 c3 c4 : Nat) (P : List Int) (S : List (ByteArray × Int)) (l : Int) (F W : List Int) (m : Int) (C : List Int) (w : World) (hP : IIn w p P) (hS : SIn w y c1 S) (hT : TIn w x z F W) (hC : IIn w v C) :
    Calls Tryd.prog 47 #[.agg #[.slice p P.length c], .slice y S.length c1, .agg #[.int .i64 l, .slice x F.length c2, .slice z W.length c3, .int .i64 m], .slice v C.length c4] w fun e w' => e = .returned (.bool (rxB P S l F W m C)) ∧ Below w.heap.size w w' := by
  have hCh := Lib.hid hC
  have hCm := hC.1
  clear hC
  have hPh := Lib.hid hP
  have hSh := Lib.hid hS
  have hFh := Lib.hid hT.1
  have hWh := Lib.hid hT.2
  clear hP hS hT
  have p1 := Lib.hid (QB.new w p P.length c 33)
  have p2 := Lib.hid (TQ.new (w.alloc (.cells #[.slice p P.length c] 33)) l x F.length c2 z W.length c3 m 37)
  obtain ⟨w0, hw0⟩ : ∃ w0, w0 = (w.alloc (.cells #[.slice p P.length c] 33)).alloc (.cells #[.int .i64 l, .slice x F.length c2, .slice z W.length c3, .int .i64 m] 37) := ⟨_, rfl⟩
  have B0 : Below w.heap.size w w0 := by rw [hw0]; exact (by repeat (first | exact Below.refl _ _ | assumption | refine Below.drew ?_ | refine below_drewN ?_ _ | refine Below.alloc' ?_ _ | (refine Below.setCell ?_ (by first | omega | (simp; done) | (simp; omega) | exact Below.size (by assumption) | exact Nat.le_trans (Below.size (by assumption)) (by simp)) _) | (refine Below.via' ?_ (by assumption)) | (refine Below.alloc ?_ (by first | omega | (simp; done) | (simp; omega) | exact Below.size (by assumption) | exact Nat.le_trans (Below.size (by assumption)) (by simp)) _) | (refine Below.via ?_ (by assumption) (by first | omega | (simp; done) | (simp; omega) | exact Below.size (by assumption) | exact Nat.le_trans (Below.size (by assumption)) (by simp)))))
  have g0 : Hid (QB w0 w.heap.size p P.length c) := by
    rw [hw0]
    exact p1.out.below (show Below (w.alloc (.cells #[.slice p P.length c] 33)).heap.size (w.alloc (.cells #[.slice p P.length c] 33)) _ from (by repeat (first | exact Below.refl _ _ | assumption | refine Below.drew ?_ | refine below_drewN ?_ _ | refine Below.alloc' ?_ _ | (refine Below.setCell ?_ (by first | omega | (simp; done) | (simp; omega) | exact Below.size (by assumption) | exact Nat.le_trans (Below.size (by assumption)) (by simp)) _) | (refine Below.via' ?_ (by assumption)) | (refine Below.alloc ?_ (by first | omega | (simp; done) | (simp; omega) | exact Below.size (by assumption) | exact Nat.le_trans (Below.size (by assumption)) (by simp)) _) | (refine Below.via ?_ (by assumption) (by first | omega | (simp; done) | (simp; omega) | exact Below.size (by assumption) | exact Nat.le_trans (Below.size (by assumption)) (by simp))))))
  have t0 : Hid (TQ w0 (w.heap.size + 1) l x F.length c2 z W.length c3 m) := by
    have h0 := p2.out
    rw [World.size_alloc, ← hw0] at h0
    exact h0
  have z0 : w0.heap.size = w.heap.size + 1 + 1 := by rw [hw0]; simp
  clear p1 p2
  go_enter Tryd.func47, Tryd.ntmps47
  go_wp2_with fail
  rw [← hw0]
  replace hw0 := Lib.hid hw0
  replace z0 := Lib.hid z0
  refine (uGood_any p y x z _ _ _ _ P S l m F W _ (hPh.out.below B0) (hSh.out.below B0) ⟨hFh.out.below B0, hWh.out.below B0⟩).mono ?_
  rintro e w1 ⟨rfl, hb1⟩
  have B1 : Below w.heap.size w w1 := Below.via' B0 hb1
  have g1 := Lib.hid (g0.out.below hb1)
  have t1 := Lib.hid (t0.out.below hb1)
  obtain ⟨ka1, kb1, kc1⟩ := g1.out
  obtain ⟨ta1, tb1, tc1, td1, te1⟩ := t1.out
  try clear ka0 kb0 kc0 ta0 tb0 tc0 td0 te0
  clear hb1
  cases htg : tgB P S l F W m
  · have hv := Lib.hid (rx_no1 (C := C) htg)
    replace htg := Lib.hid htg
    go_wp2
    go_ret
    exact ⟨ret_boo hv.out.symm, B1⟩
  have htp := tg_iff.1 htg
  have hgh := Lib.hid htp.g
  have hsh := Lib.hid htp.s
  have hrh := Lib.hid htp.r
  have hc6 := htp.c
  have htgh := Lib.hid htg
  clear htp htg
  go_wp2_with fail
  refine (uCount_any p y x z _ _ _ _ P S l m F W _ hgh.out hsh.out hrh.out (hPh.out.below B1) (hSh.out.below B1) (hFh.out.below B1)).mono ?_
  rintro e w5 ⟨rfl, hb5⟩
  have B5 : Below w.heap.size w w5 := Below.via' B1 hb5
  have g5 := Lib.hid (g1.out.below hb5)
  have t5 := Lib.hid (t1.out.below hb5)
  obtain ⟨ka5, kb5, kc5⟩ := g5.out
  obtain ⟨ta5, tb5, tc5, td5, te5⟩ := t5.out
  try clear ka1 kb1 kc1 ta1 tb1 tc1 td1 te1
  clear hb5
  by_cases hln : (C.length : Int) ≠ tcZ P S l F
  · have e1 : ((C.length : Int) == tcZ P S l F) = false := by rw [beq_eq_false_iff_ne]; exact hln
    have hv := Lib.hid (rx_no2 (C := C) (W := W) (m := m) hln)
    replace hln := Lib.hid hln
    go_wp2
    go_ret
    exact ⟨ret_boo hv.out.symm, B5⟩
  replace hln := Decidable.of_not_not hln
  have e1 : ((C.length : Int) == tcZ P S l F) = true := by rw [beq_iff_eq]; exact hln
  have hlz := Lib.hid hln
  have hcv := Lib.hid (cv_in (L := C) (by omega))
  clear hln
  go_wp2_with fail
  refine (l1All_any _ _ C _ _ _ hCm (hCh.out.below B5).2.2).mono ?_
  rintro e w6 ⟨rfl, rfl⟩
  rw [hcv.out]
  cases hc : cvB C
  · have hv := Lib.hid (rx_no3 (P := P) (S := S) (l := l) (F := F) (W := W) (m := m) hc)
    replace hc := Lib.hid hc
    go_wp2
    go_ret
    exact ⟨ret_boo hv.out.symm, B5⟩
  · have hv := Lib.hid (rx_yes htgh.out hlz.out hc)
    replace hc := Lib.hid hc
    go_wp2
    go_ret
    exact ⟨ret_boo hv.out.symm, B5⟩
set_option maxHeartbeats 8000000 in
theorem nReport_any (p y x z v : Option Addr) (c c1 c2 c3 c4 : Nat) (P : List Int) (S : List (ByteArray × Int)) (l : Int) (F W : List Int) (m : Int) (C : List Int) (w : World) (htg : TgP P S l F W m) (hcv : cvB C = true) (hln : (C.length : Int) = tcZ P S l F) (hP : IIn w p P) (hS : SIn w y c1 S) (hT : TIn w x z F W) (hC : IIn w v C) :
    Calls Tryd.prog 48 #[.agg #[.slice p P.length c], .slice y S.length c1, .agg #[.int .i64 l, .slice x F.length c2, .slice z W.length c3, .int .i64 m], .slice v C.length c4] w fun e w' => e = .returned (.string (rxL P S l F W m C C.length)) ∧ Below w.heap.size w w' := by
  have hCh := Lib.hid hC
  have hth := Lib.hid htg
  have hcvh := Lib.hid hcv
  have hlz := Lib.hid hln
  have hrs := Lib.hid (rx_size htg hcv hln)
  have hC6 : C.length ≤ 600 := by have := htg.c; omega
  clear hC htg hcv hln
  have hPh := Lib.hid hP
  have hSh := Lib.hid hS
  have hFh := Lib.hid hT.1
  have hWh := Lib.hid hT.2
  clear hP hS hT
  have p1 := Lib.hid (QB.new w p P.length c 33)
  have p2 := Lib.hid (TQ.new (w.alloc (.cells #[.slice p P.length c] 33)) l x F.length c2 z W.length c3 m 37)
  obtain ⟨w0, hw0⟩ : ∃ w0, w0 = (w.alloc (.cells #[.slice p P.length c] 33)).alloc (.cells #[.int .i64 l, .slice x F.length c2, .slice z W.length c3, .int .i64 m] 37) := ⟨_, rfl⟩
  have B0 : Below w.heap.size w w0 := by rw [hw0]; exact (by repeat (first | exact Below.refl _ _ | assumption | refine Below.drew ?_ | refine below_drewN ?_ _ | refine Below.alloc' ?_ _ | (refine Below.setCell ?_ (by first | omega | (simp; done) | (simp; omega) | exact Below.size (by assumption) | exact Nat.le_trans (Below.size (by assumption)) (by simp)) _) | (refine Below.via' ?_ (by assumption)) | (refine Below.alloc ?_ (by first | omega | (simp; done) | (simp; omega) | exact Below.size (by assumption) | exact Nat.le_trans (Below.size (by assumption)) (by simp)) _) | (refine Below.via ?_ (by assumption) (by first | omega | (simp; done) | (simp; omega) | exact Below.size (by assumption) | exact Nat.le_trans (Below.size (by assumption)) (by simp)))))
  have g0 : Hid (QB w0 w.heap.size p P.length c) := by
    rw [hw0]
    exact p1.out.below (show Below (w.alloc (.cells #[.slice p P.length c] 33)).heap.size (w.alloc (.cells #[.slice p P.length c] 33)) _ from (by repeat (first | exact Below.refl _ _ | assumption | refine Below.drew ?_ | refine below_drewN ?_ _ | refine Below.alloc' ?_ _ | (refine Below.setCell ?_ (by first | omega | (simp; done) | (simp; omega) | exact Below.size (by assumption) | exact Nat.le_trans (Below.size (by assumption)) (by simp)) _) | (refine Below.via' ?_ (by assumption)) | (refine Below.alloc ?_ (by first | omega | (simp; done) | (simp; omega) | exact Below.size (by assumption) | exact Nat.le_trans (Below.size (by assumption)) (by simp)) _) | (refine Below.via ?_ (by assumption) (by first | omega | (simp; done) | (simp; omega) | exact Below.size (by assumption) | exact Nat.le_trans (Below.size (by assumption)) (by simp))))))
  have t0 : Hid (TQ w0 (w.heap.size + 1) l x F.length c2 z W.length c3 m) := by
    have h0 := p2.out
    rw [World.size_alloc, ← hw0] at h0
    exact h0
  have z0 : w0.heap.size = w.heap.size + 1 + 1 := by rw [hw0]; simp
  clear p1 p2
  go_enter Tryd.func48, Tryd.ntmps48
  go_wp2
  rw [← hw0]
  go_loopw [9, 14] (fun q c wr => ∃ k : Nat, k ≤ C.length ∧ c = .int .i64 k ∧ q = .string (rxL P S l F W m C k) ∧ Below w0.heap.size w0 wr) (fun _ c _ => C.length - (intOf c).toNat)
  case atStart => exact ⟨0, by omega, by go_num, rfl, Below.refl _ _⟩
  case round =>
    obtain ⟨k, hk, rfl, rfl, hb⟩ := hrel
    have hBr := Below.via' B0 hb
    by_cases hlt : k < C.length
    · obtain ⟨b5, o5, n, rfl, hb5, hCk, hc0⟩ := (hCh.out.below hBr).2.2.int hlt
      have hbn := cv_at hcvh.out hCk
      have h8 := numI_8 hbn.1 hbn.2
      have hxs := ctX_size hth.out (i := (k : Int)) (by omega) (by have := hlz.out; omega)
      have hr0 := hrs.out k (by omega)
      have hnx := Lib.hid (rxL_next (P := P) (S := S) (l := l) (F := F) (W := W) (m := m) hCk)
      have hk' : (k : Int) < (C.length : Int) := by omega
      have hk0 : (0 : Int) ≤ (k : Int) := by omega
      have d1 : (⟨#[58, 32]⟩ : ByteArray).size = 2 := rfl
      have d2 : (⟨#[10]⟩ : ByteArray).size = 1 := rfl
      have s1 : ¬ 9223372036854775807 < (ctX P S l F W m (k : Int)).size + (⟨#[58, 32]⟩ : ByteArray).size := by rw [d1]; omega
      have s1' : ¬ 9223372036854775807 < (ctX P S l F W m (k : Int)).size + 2 := by omega
      have s2 : ¬ 9223372036854775807 < (ctX P S l F W m (k : Int) ++ ⟨#[58, 32]⟩).size + (numI n).size := by simp only [ByteArray.size_append, d1]; omega
      have s2' : ¬ 9223372036854775807 < (ctX P S l F W m (k : Int)).size + 2 + (numI n).size := by omega
      have s3 : ¬ 9223372036854775807 < ((ctX P S l F W m (k : Int) ++ ⟨#[58, 32]⟩) ++ numI n).size + (⟨#[10]⟩ : ByteArray).size := by simp only [ByteArray.size_append, d1, d2]; omega
      have s3' : ¬ 9223372036854775807 < (ctX P S l F W m (k : Int)).size + 2 + (numI n).size + 1 := by omega
      have s4 : ¬ 9223372036854775807 < (rxL P S l F W m C k).size + (((ctX P S l F W m (k : Int) ++ ⟨#[58, 32]⟩) ++ numI n) ++ ⟨#[10]⟩ : ByteArray).size := by simp only [ByteArray.size_append, d1, d2]; omega
      have s4' : ¬ 9223372036854775807 < (rxL P S l F W m C k).size + ((ctX P S l F W m (k : Int)).size + 2 + (numI n).size + 1) := by omega
      have hg := g0.out.below hb
      have ht := t0.out.below hb
      obtain ⟨ka, kb, kc⟩ := hg
      obtain ⟨ta, tb, tc, td, te⟩ := ht
      have hki := hlz.out
      replace hCk := Lib.hid hCk
      clear d1 d2
      go_wp2_with fail
      refine (nCell_any p y x z _ _ _ _ P S l F W m (k : Int) _ hth.out (by omega) (by omega) (hPh.out.below hBr) (hSh.out.below hBr) ⟨hFh.out.below hBr, hWh.out.below hBr⟩).mono ?_
      rintro e w3 ⟨rfl, hb3⟩
      replace hki := Lib.hid hki
      go_wp2_with fail
      refine (nSigned_any n _ hbn.1 hbn.2).mono ?_
      rintro e w4 ⟨rfl, hb4⟩
      have hC5 := Lib.hid (Below.via' (Below.via' hb hb3) hb4)
      clear hb3 hb4
      go_wp2
      go_roundw
      case rel => exact ⟨k + 1, by omega, by go_num, by rw [hnx.out], hC5.out⟩
      case measure => simp [intOf]; omega
    · have hij : k = C.length := by omega
      subst hij
      go_wp2
      go_ret
      exact ⟨rfl, hBr⟩
set_option maxHeartbeats 4000000 in
theorem sRT_x (p y x z v : Option Addr) (c c1 c2 c3 c4 : Nat) (P : List Int) (S : List (ByteArray × Int)) (l : Int) (F W : List Int) (m : Int) (C : List Int) (w : World) (hP : IIn w p P) (hS : SIn w y c1 S) (hT : TIn w x z F W) (hC : IIn w v C) (_ : PowTab w) :
    Calls Tryd.prog 25 #[.agg #[.slice p P.length c], .slice y S.length c1, .agg #[.int .i64 l, .slice x F.length c2, .slice z W.length c3, .int .i64 m], .slice v C.length c4] w fun e w' => e = .returned (.tuple #[.string (rxR P S l F W m C), .bool (rxB P S l F W m C)]) ∧ Below w.heap.size w w' := by
  have hCh := Lib.hid hC
  clear hC
  have hPh := Lib.hid hP
  have hSh := Lib.hid hS
  have hFh := Lib.hid hT.1
  have hWh := Lib.hid hT.2
  clear hP hS hT
  have p1 := Lib.hid (QB.new w p P.length c 33)
  have p2 := Lib.hid (TQ.new (w.alloc (.cells #[.slice p P.length c] 33)) l x F.length c2 z W.length c3 m 37)
  obtain ⟨w0, hw0⟩ : ∃ w0, w0 = (w.alloc (.cells #[.slice p P.length c] 33)).alloc (.cells #[.int .i64 l, .slice x F.length c2, .slice z W.length c3, .int .i64 m] 37) := ⟨_, rfl⟩
  have B0 : Below w.heap.size w w0 := by rw [hw0]; exact (by repeat (first | exact Below.refl _ _ | assumption | refine Below.drew ?_ | refine below_drewN ?_ _ | refine Below.alloc' ?_ _ | (refine Below.setCell ?_ (by first | omega | (simp; done) | (simp; omega) | exact Below.size (by assumption) | exact Nat.le_trans (Below.size (by assumption)) (by simp)) _) | (refine Below.via' ?_ (by assumption)) | (refine Below.alloc ?_ (by first | omega | (simp; done) | (simp; omega) | exact Below.size (by assumption) | exact Nat.le_trans (Below.size (by assumption)) (by simp)) _) | (refine Below.via ?_ (by assumption) (by first | omega | (simp; done) | (simp; omega) | exact Below.size (by assumption) | exact Nat.le_trans (Below.size (by assumption)) (by simp)))))
  have g0 : Hid (QB w0 w.heap.size p P.length c) := by
    rw [hw0]
    exact p1.out.below (show Below (w.alloc (.cells #[.slice p P.length c] 33)).heap.size (w.alloc (.cells #[.slice p P.length c] 33)) _ from (by repeat (first | exact Below.refl _ _ | assumption | refine Below.drew ?_ | refine below_drewN ?_ _ | refine Below.alloc' ?_ _ | (refine Below.setCell ?_ (by first | omega | (simp; done) | (simp; omega) | exact Below.size (by assumption) | exact Nat.le_trans (Below.size (by assumption)) (by simp)) _) | (refine Below.via' ?_ (by assumption)) | (refine Below.alloc ?_ (by first | omega | (simp; done) | (simp; omega) | exact Below.size (by assumption) | exact Nat.le_trans (Below.size (by assumption)) (by simp)) _) | (refine Below.via ?_ (by assumption) (by first | omega | (simp; done) | (simp; omega) | exact Below.size (by assumption) | exact Nat.le_trans (Below.size (by assumption)) (by simp))))))
  have t0 : Hid (TQ w0 (w.heap.size + 1) l x F.length c2 z W.length c3 m) := by
    have h0 := p2.out
    rw [World.size_alloc, ← hw0] at h0
    exact h0
  have z0 : w0.heap.size = w.heap.size + 1 + 1 := by rw [hw0]; simp
  clear p1 p2
  go_enter Tryd.func25, Tryd.ntmps25
  go_wp2_with fail
  rw [← hw0]
  replace hw0 := Lib.hid hw0
  replace z0 := Lib.hid z0
  refine (nCells_any p y x z v _ _ _ _ _ P S l F W m C _ (hPh.out.below B0) (hSh.out.below B0) ⟨hFh.out.below B0, hWh.out.below B0⟩ (hCh.out.below B0)).mono ?_
  rintro e w1 ⟨rfl, hb1⟩
  have B1 : Below w.heap.size w w1 := Below.via' B0 hb1
  have g1 := Lib.hid (g0.out.below hb1)
  have t1 := Lib.hid (t0.out.below hb1)
  obtain ⟨ka1, kb1, kc1⟩ := g1.out
  obtain ⟨ta1, tb1, tc1, td1, te1⟩ := t1.out
  try clear ka0 kb0 kc0 ta0 tb0 tc0 td0 te0
  clear hb1
  cases hr : rxB P S l F W m C
  · have hv2 := Lib.hid (rxR_no hr)
    replace hr := Lib.hid hr
    go_wp2
    go_ret2
    exact ⟨ret_sbP hv2.out.symm hr.out.symm, B1⟩
  have hv2 := Lib.hid (rxR_yes hr)
  have hr2 := hr
  unfold rxB at hr2
  simp only [Bool.and_eq_true, decide_eq_true_eq] at hr2
  replace hr := Lib.hid hr
  have htg := tg_iff.1 hr2.1
  have hr3 := Lib.hid hr2.2
  clear hr2
  go_wp2_with fail
  refine (nReport_any p y x z v _ _ _ _ _ P S l F W m C _ htg hr3.out.2 hr3.out.1 (hPh.out.below B1) (hSh.out.below B1) ⟨hFh.out.below B1, hWh.out.below B1⟩ (hCh.out.below B1)).mono ?_
  rintro e w2 ⟨rfl, hb2⟩
  clear htg
  go_wp2
  go_ret2
  exact ⟨ret_sbP hv2.out.symm hr.out.symm, Below.via' B1 hb2⟩
end Go.Proofs.YtpmbenedeakieabDoor

namespace Go.Proofs.YtpmbenedeakieabDoor
open Go.ChangeShapes Go.WideShapes Go.ChangeAt Go.RowKit
set_option maxRecDepth 100000

theorem tPow : (Tryd.prog.globals[0]?).map (·.type) = some 142 := by kernel_rfl
theorem cU64 : Tryd.prog.cellsOf 132 = 1 := by kernel_rfl
theorem cPow : Tryd.prog.cellsOf 142 = 20 := by kernel_rfl
theorem pow_of_laidMet {W : World} {rest : List (String × DataW Unit)} (h : laidMet Tryd.prog (("internal/strconv.uint64pow10", Lib.tabData .u64 Lib.pow10Tab) :: rest) W) : PowTab W := by
  have ht := Lib.tabIs_of_head gPow tPow Tryd.underlying142 Tryd.underlying132 cU64 cPow h
  have hl := Lib.TabIs.cell ht gPow 0 (by simp [Lib.pow10Tab_length])
  exact ⟨ht, World.block_lt_of_cell? W _ hl⟩
end Go.Proofs.YtpmbenedeakieabDoor
