/-
  Part 25: what the statement needs of these texts: SAgAll.
-/
import Derived.BigQuiet
import Derived.BigRegion
import Derived.Deep.OwnRows
import Derived.Deep.QuietTactic
import Derived.Deep.RegionHeld3
import Derived.IntWalk
import Derived.Laws.CopyOwn
import Derived.Laws.OwnMore
import Derived.Laws.RangeAny
import Derived.Lib.AppendZerosOnto
import Derived.Lib.Atoi
import Derived.Lib.AtoiErrMem
import Derived.Lib.BufferRead
import Derived.Lib.BufferWrite
import Derived.Lib.Hide
import Derived.Lib.IndexMore
import Derived.Lib.ItoaNum
import Derived.Lib.LaidTab
import Derived.Lib.Repeat
import Derived.Maps.AppendAt
import Derived.Maps.OwnSet
import Derived.Maps.RangeWalk
import Derived.Orders
import Derived.ProofKit
import Derived.Shelf.Slices.In.SortNone
import Derived.Shelf.Small.Wraps
import Derived.Shelf.Sort.Plain
import Derived.Shelf.Strings.Builder1
import Derived.Shelf.Strings.Prefix
import Derived.Shelf.Strings.Repeat
import Derived.Sort.KeysCollected
import Derived.Sort.OwnSorted
import Derived.StillTailTactics
import Derived.StringKeys
import Derived.Test.YtmmnoieafndgjaaProg
import Derived.Test.YtmmnoieafndgjaaRows
import Derived.WalkKit
import Derived.WalkLawsBesides
import Derived.WalkSpells
import Derived.Test.YtmmnoieafndgjaaHm2
import Derived.Test.YtmmnoieafndgjaaHm4
import Derived.Test.YtmmnoieafndgjaaHm6
import Derived.Test.YtmmnoieafndgjaaHm7
import Derived.Test.YtmmnoieafndgjaaHm9
import Derived.Test.YtmmnoieafndgjaaHm12
import Derived.Test.YtmmnoieafndgjaaHm13
import Derived.Test.YtmmnoieafndgjaaHm14
import Derived.Test.YtmmnoieafndgjaaHm15
import Derived.Test.YtmmnoieafndgjaaHm16
import Derived.Test.YtmmnoieafndgjaaHm17
import Derived.Test.YtmmnoieafndgjaaHm18
import Derived.Test.YtmmnoieafndgjaaHm22
import Derived.Test.YtmmnoieafndgjaaHm23
import Derived.Test.YtmmnoieafndgjaaHm24
namespace Go.Proofs.Ytmmnoieafndgjaa
open Go.RowKit Go.Deep
set_option linter.unusedVariables false
set_option linter.unusedSimpArgs false
attribute [local go_sem] fr_opt

/-- The row, whether the next would be the first one, and whether the file was taken. -/
def takeR (m : RowM) (first : Bool) (a l : Nat) : RowM × Bool × Bool :=
  if (a : Int) % m.size ≠ 0 ∨ m.size < l then (m, first, false)
  else if first = true then ({ m with begin_ := a, end_ := a + l, next := a + m.size }, false, true)
  else if (a : Int) ≠ m.end_ then (m, false, false)
  else ({ m with end_ := a + l, next := a + m.size }, false, true)
end Go.Proofs.Ytmmnoieafndgjaa

namespace Go.Proofs.Ytmmnoieafndgjaa
open Go.RowKit Go.Deep
set_option linter.unusedVariables false
set_option linter.unusedSimpArgs false

theorem place_name (head : ByteArray) (u : Nat) (hu : u ≤ 99999999) : placeB head (nameB head u) = some u := by
  have h1 : Lib.hasPrefix (nameB head u).data.toList head.data.toList = true := by
    rw [nameB_toList]
    simp [Lib.hasPrefix]
  have h2 : Lib.trimPrefix (nameB head u).data.toList head.data.toList = dec8 u := by
    unfold Lib.trimPrefix
    rw [if_pos h1, nameB_toList]
    simp
  unfold placeB
  rw [if_pos h1, h2]
  simp only
  rw [if_pos ⟨dec8_length u, fun b hb => dec8_dig u b hb⟩, val8_dec8 u (by omega)]
end Go.Proofs.Ytmmnoieafndgjaa

namespace Go.Proofs.Ytmmnoieafndgjaa
open Go.RowKit Go.Deep
set_option linter.unusedVariables false
set_option linter.unusedSimpArgs false
attribute [local go_sem] fr_opt

/-- The names that begin so, rising. -/
def namesS (head : ByteArray) (st : St) : List ByteArray := (((st.fs.filter fun p => Lib.hasPrefix p.1.data.toList head.data.toList).map fun p => p.1.data.toList).mergeSort fun x y => decide (x ≤ y)).map fun l => ⟨l.toArray⟩
theorem namesS_length (head : ByteArray) (st : St) : (namesS head st).length ≤ st.fs.length := by
  unfold namesS
  rw [List.length_map, List.length_mergeSort, List.length_map]
  exact List.length_filter_le _ _
theorem list_strs (g : Gh) (st : St) (head : ByteArray) (w : World) (h : DiskAt w g st) (hn : st.fs.length ≤ 1099511627776) :
    Calls Try.prog 11 #[.pointer (some ⟨g.d, 0, none⟩), .string head] w fun e w' => ∃ v, e = .returned v ∧ Strs w' w.heap.size v (namesS head st) ∧ Below w.heap.size w w' := by
  refine (list_any g st head w h hn).mono ?_
  rintro e w' ⟨v, vis, rfl, hp, ho, hb⟩
  refine ⟨v, rfl, ?_, hb⟩
  have h2 : (begins head vis).mergeSort (fun x y => decide (x ≤ y)) = ((st.fs.filter fun p => Lib.hasPrefix p.1.data.toList head.data.toList).map fun p => p.1.data.toList).mergeSort fun x y => decide (x ≤ y) := by
    refine mergeSort_of_perm ?_
    unfold begins
    rw [← h.fs, List.filter_map, List.map_map]
    exact (hp.filter _).map _
  have hl : (begins head vis).length = (namesS head st).length := by
    unfold namesS
    rw [List.length_map, ← h2, List.length_mergeSort]
  rw [h2, hl] at ho
  have he : (((st.fs.filter fun p => Lib.hasPrefix p.1.data.toList head.data.toList).map fun p => p.1.data.toList).mergeSort fun x y => decide (x ≤ y)).map encStr = (namesS head st).map Value.string := by
    unfold namesS
    rw [List.map_map]
    rfl
  rw [he] at ho
  rcases ho.2 with ⟨e1, h0⟩ | ⟨g', cap, cur, e1, hbs, hg, h3, h4, h5, h6⟩
  · exact ⟨none, 0, by rw [e1, h0], .inl (List.length_eq_zero_iff.1 h0)⟩
  · refine ⟨_, _, e1, .inr ⟨g', 0, rfl, hbs, fun i hi => ?_⟩⟩
    rw [Nat.mul_one] at h6
    have h7 : (cur.toList.take (namesS head st).length)[i]? = ((namesS head st).map Value.string)[i]? := by rw [h6]
    rw [List.getElem?_take, if_pos hi, Array.getElem?_toList, List.getElem?_map, List.getElem?_eq_getElem hi] at h7
    simp [World.cell?, hg, h7, List.getD_eq_getElem?_getD, List.getElem?_eq_getElem hi]

/-- One file is looked at. -/
def gathF (st : St) (x : RowM × Bool × List ByteArray) (nm : ByteArray) : RowM × Bool × List ByteArray :=
  match placeB x.1.head nm with
  | none => x
  | some a => ((takeR x.1 x.2.1 a (st.len nm)).1, (takeR x.1 x.2.1 a (st.len nm)).2.1, if (takeR x.1 x.2.1 a (st.len nm)).2.2 = true then x.2.2 else x.2.2 ++ [nm])
def gathS (st : St) (m : RowM) (l : List ByteArray) : RowM × Bool × List ByteArray := l.foldl (gathF st) (m, true, [])
end Go.Proofs.Ytmmnoieafndgjaa

namespace Go.Proofs.Ytmmnoieafndgjaa
open Go.RowKit Go.Deep
set_option linter.unusedVariables false
set_option linter.unusedSimpArgs false
attribute [local go_sem] fr_opt

theorem Calm.readyE {n : Nat} {st : St} (h : Calm n st) {ts : List ByteArray} (ht : ∀ t ∈ ts, (st.find t).isSome = true) : Go.Proofs.Ytmmnoieafndgjaa.readyE st ts = 0 := by
  unfold Go.Proofs.Ytmmnoieafndgjaa.readyE
  rw [if_neg (by rw [h.down]; simp), if_pos]
  rw [List.all_eq_true]
  exact ht
/-- What is opened. -/
def openX (st : St) (head : ByteArray) (size : Int) : RowM × Bool × List ByteArray := gathS st (newRow head size) (namesS head st)
def openM (st : St) (head : ByteArray) (size : Int) : RowM := { (openX st head size).1 with synced := (openX st head size).1.begin_, touched := (openX st head size).1.begin_ }
def openS (st : St) (head : ByteArray) (size : Int) : St := deleteAll st (openX st head size).2.2
end Go.Proofs.Ytmmnoieafndgjaa

namespace Go.Proofs.Ytmmnoieafndgjaa
open Go.RowKit Go.Deep
set_option linter.unusedVariables false
set_option linter.unusedSimpArgs false
attribute [local go_sem] fr_opt

/-- The places from u on, below x. -/
def plF (x z : Nat) : Nat → Nat → List Nat
  | 0, _ => []
  | f + 1, u => if u < x then u :: plF x z f (u + z) else []
theorem plF_done (x z : Nat) {u : Nat} (h : ¬ u < x) : ∀ f, plF x z f u = []
  | 0 => rfl
  | f + 1 => by unfold plF; rw [if_neg h]
theorem plF_more (x z : Nat) (hz : 0 < z) : ∀ (f : Nat) (u : Nat), x - u ≤ f → plF x z (f + 1) u = plF x z f u
  | 0, u, h => by rw [plF_done x z (by omega), plF_done x z (by omega)]
  | f + 1, u, h => by
    by_cases hu : u < x
    · unfold plF
      rw [if_pos hu, if_pos hu, plF_more x z hz f (u + z) (by omega)]
    · rw [plF_done x z hu, plF_done x z hu]
def plS (x z u : Nat) : List Nat := plF x z x u
theorem plS_step (x z u : Nat) (hz : 0 < z) (hu : u < x) : plS x z u = u :: plS x z (u + z) := by
  unfold plS
  rw [← plF_more x z hz x u (by omega)]
  show (if u < x then _ else _) = _
  rw [if_pos hu]
theorem plS_done (x z u : Nat) (hu : ¬ u < x) : plS x z u = [] := plF_done x z hu x
def rowNames (m : RowM) (u : Nat) : List ByteArray := (plS m.next.toNat m.size.toNat u).map (nameB m.head)
end Go.Proofs.Ytmmnoieafndgjaa

namespace Go.Proofs.Ytmmnoieafndgjaa
open Go.RowKit Go.Deep
set_option linter.unusedVariables false
set_option linter.unusedSimpArgs false
attribute [local go_sem] fr_opt

end Go.Proofs.Ytmmnoieafndgjaa

namespace Go.Proofs.Ytmmnoieafndgjaa
open Go.RowKit Go.Deep
set_option linter.unusedVariables false
set_option linter.unusedSimpArgs false
attribute [local go_sem] fr_opt

theorem part_text {w : World} {B cap : Nat} {cur : Array Value} {xs : List UInt8} {a k : Nat} (hg : w.heap[B]? = some (.cells cur 5 (0, 0))) (h4 : cur.toList.take xs.length = xs.map by8) (hk : a + k ≤ xs.length) :
    (convert 22 9 (.slice (some ⟨B, a, none⟩) k cap)).run Try.prog w = .ok (.string ⟨((xs.drop a).take k).toArray⟩) w := by
  have hl : ((xs.drop a).take k).length = k := by rw [List.length_take, List.length_drop]; omega
  have := run_convert_bytes_back (P := Try.prog) w 22 9 5 ⟨B, a, none⟩ cap ((xs.drop a).take k) Try.underlying22 Try.underlying5 Try.underlying9 (fun j hj => by
    rw [hl] at hj
    rw [add_none]
    have e1 : (cur.toList.take xs.length)[a + j]? = (xs.map by8)[a + j]? := by rw [h4]
    rw [List.getElem?_take, if_pos (by omega), Array.getElem?_toList, List.getElem?_map, List.getElem?_eq_getElem (by omega)] at e1
    simp [World.cell?, hg, e1, by8])
  rw [hl] at this
  exact this
set_option maxRecDepth 100000 in
theorem dread_ok (g : Gh) (st : St) (nm : ByteArray) (f : FileM) (a k : Nat) (w : World) (h : DiskAt w g st) (hm : nm.size ≤ maxLen) (hq : st.down = false) (hf : st.find nm = some f) (hk : 0 < k) (ha : a + k ≤ f.bytes.length) (hl : f.bytes.length ≤ 1099511627776) :
    Calls Try.prog 33 #[.pointer (some ⟨g.d, 0, none⟩), .string nm, .int .i64 a, .int .i64 k] w fun e w' => e = .returned (.tuple #[.string ⟨((f.bytes.drop a).take k).toArray⟩, .int .i64 0]) ∧ Below w.heap.size w w' := by
  have hf' := h.find nm
  rw [hf] at hf'
  obtain ⟨e0, hg, rfl⟩ : ∃ e0, getE g.es nm = some e0 ∧ e0.f = f := by
    cases hx : getE g.es nm with
    | none => rw [hx] at hf'; cases hf'
    | some e0 => rw [hx] at hf'; exact ⟨e0, rfl, Option.some.inj hf'⟩
  have HC := Lib.hid (find_ok g st nm w h hm hq e0 hg)
  have HE := Lib.hid (h.ents e0 (getE_mem hg).1)
  have hs : IntKind.i64.wrap ((e0.f.bytes.length : Int) - a) = (e0.f.bytes.length : Int) - a := IntWalk.i64_in _ (by omega)
  have hp : IntKind.i64.wrap ((a : Int) + k) = (a : Int) + k := IntWalk.i64_in _ (by omega)
  clear h hq hg hf hf'
  go_enter Try.func33, Try.ntmps33
  go_wp2_with (go_at_call 46; refine HC.out.mono ?_)
  rintro e w' ⟨rfl, hb⟩
  have hE : EntAt w' e0 := HE.out.chg (Chg.of_below (S := fun _ => False) hb) (fun _ _ x => x)
  have k1 := hE.cells.2.1
  rcases hE.bytes.form with ⟨_, h0⟩ | ⟨B, cap, cur, hv, hgB, hcap, hmax, hcs, htk⟩
  · rw [h0] at ha; simp at ha; omega
  · have hct : ∀ c, _ := fun c => part_text (cap := c) hgB htk ha
    rw [hv] at k1
    unfold pk
    clear hE hv hgB htk hcs
    go_wp2_with fail
    go_ret2
    exact ⟨rfl, hb⟩

end Go.Proofs.Ytmmnoieafndgjaa

namespace Go.Proofs.Ytmmnoieafndgjaa
open Go.RowKit Go.Deep
set_option linter.unusedVariables false
set_option linter.unusedSimpArgs false

def valA (acc : Nat) (l : List UInt8) : Nat := l.foldl (fun a b => a * 10 + (b.toNat - 48)) acc
theorem valA_lt : ∀ (l1 l2 : List UInt8), l1.length = l2.length → (∀ b ∈ l1, isDig b) → (∀ b ∈ l2, isDig b) → ∀ a1 a2, a2 < a1 → valA a2 l2 < valA a1 l1
  | [], [], _, _, _, a1, a2, h => h
  | x :: l1, y :: l2, hl, h1, h2, a1, a2, h => by
    have hx := h1 x (List.mem_cons_self ..)
    have hy := h2 y (List.mem_cons_self ..)
    have e1 : valA a2 (y :: l2) = valA (a2 * 10 + (y.toNat - 48)) l2 := rfl
    have e2 : valA a1 (x :: l1) = valA (a1 * 10 + (x.toNat - 48)) l1 := rfl
    rw [e1, e2]
    refine valA_lt l1 l2 (by simpa using hl) (fun b hb => h1 b (List.mem_cons_of_mem _ hb)) (fun b hb => h2 b (List.mem_cons_of_mem _ hb)) _ _ ?_
    unfold isDig at hx hy
    omega
theorem lex_val : ∀ (l1 l2 : List UInt8), l1.length = l2.length → (∀ b ∈ l1, isDig b) → (∀ b ∈ l2, isDig b) → ∀ a, valA a l1 ≤ valA a l2 → l1 ≤ l2
  | [], [], _, _, _, a, h => List.le_refl _
  | x :: l1, y :: l2, hl, h1, h2, a, h => by
    have hx := h1 x (List.mem_cons_self ..)
    have hy := h2 y (List.mem_cons_self ..)
    have h1' : ∀ b ∈ l1, isDig b := fun b hb => h1 b (List.mem_cons_of_mem _ hb)
    have h2' : ∀ b ∈ l2, isDig b := fun b hb => h2 b (List.mem_cons_of_mem _ hb)
    have hl' : l1.length = l2.length := by simpa using hl
    rw [List.cons_le_cons_iff]
    by_cases hlt : x < y
    · exact .inl hlt
    · by_cases he : x = y
      · subst he
        exact .inr ⟨rfl, lex_val l1 l2 hl' h1' h2' _ h⟩
      · exfalso
        have h3 : y.toNat < x.toNat := by
          have h4 : ¬ x.toNat < y.toNat := fun h => hlt (UInt8.lt_iff_toNat_lt.2 h)
          have h5 : x.toNat ≠ y.toNat := fun h => he (UInt8.toNat_inj.1 h)
          omega
        have h6 : valA (a * 10 + (y.toNat - 48)) l2 < valA (a * 10 + (x.toNat - 48)) l1 := by
          refine valA_lt l1 l2 hl' h1' h2' _ _ ?_
          unfold isDig at hx hy
          omega
        have h7 : valA (a * 10 + (x.toNat - 48)) l1 ≤ valA (a * 10 + (y.toNat - 48)) l2 := h
        omega
theorem nameB_le (head : ByteArray) {u v : Nat} (hu : u ≤ 99999999) (hv : v ≤ 99999999) (h : u ≤ v) : (nameB head u).data.toList ≤ (nameB head v).data.toList := by
  rw [nameB_toList, nameB_toList]
  refine List.append_left_le (lex_val _ _ (by rw [dec8_length, dec8_length]) (dec8_dig u) (dec8_dig v) 0 ?_)
  have e : ∀ l, valA 0 l = val8 l := fun _ => rfl
  rw [e, e, val8_dec8 u (by omega), val8_dec8 v (by omega)]
  exact h
theorem nameB_inj (head : ByteArray) {u v : Nat} (hu : u ≤ 99999999) (hv : v ≤ 99999999) (h : nameB head u = nameB head v) : u = v := by
  have h1 := place_name head u hu
  rw [h, place_name head v hv] at h1
  exact (Option.some.inj h1).symm
theorem nameB_pre (head : ByteArray) (u : Nat) : Lib.hasPrefix (nameB head u).data.toList head.data.toList = true := by
  rw [nameB_toList]
  simp [Lib.hasPrefix]

/-- Files of sixteen bytes each, from the i-th on. -/
def filesF (head : ByteArray) : Nat → List FileM → List (ByteArray × FileM)
  | _, [] => []
  | i, f :: fl => (nameB head (16 * i), f) :: filesF head (i + 1) fl
theorem filesF_append (head : ByteArray) (l2 : List FileM) : ∀ (l1 : List FileM) (i : Nat), filesF head i (l1 ++ l2) = filesF head i l1 ++ filesF head (i + l1.length) l2
  | [], i => rfl
  | f :: l1, i => by
    show (nameB head (16 * i), f) :: filesF head (i + 1) (l1 ++ l2) = (nameB head (16 * i), f) :: (filesF head (i + 1) l1 ++ _)
    rw [filesF_append head l2 l1 (i + 1), List.length_cons, show i + 1 + l1.length = i + (l1.length + 1) by omega]
theorem filesF_length (head : ByteArray) : ∀ (l : List FileM) (i : Nat), (filesF head i l).length = l.length
  | [], _ => rfl
  | f :: l, i => by
    show (filesF head (i + 1) l).length + 1 = _
    rw [filesF_length head l, List.length_cons]
theorem filesF_mem (head : ByteArray) : ∀ (l : List FileM) (i : Nat) (p : ByteArray × FileM), p ∈ filesF head i l → ∃ j f, i ≤ j ∧ j < i + l.length ∧ l[j - i]? = some f ∧ p = (nameB head (16 * j), f)
  | f :: l, i, p, hp => by
    rcases List.mem_cons.1 (show p ∈ (nameB head (16 * i), f) :: filesF head (i + 1) l from hp) with rfl | hp
    · exact ⟨i, f, Nat.le_refl _, by rw [List.length_cons]; omega, by simp, rfl⟩
    · obtain ⟨j, f', h1, h2, h3, h4⟩ := filesF_mem head l (i + 1) p hp
      refine ⟨j, f', by omega, by rw [List.length_cons]; omega, ?_, h4⟩
      rw [show j - i = (j - (i + 1)) + 1 by omega, List.getElem?_cons_succ]
      exact h3
theorem filesF_find (head : ByteArray) : ∀ (l : List FileM) (i j : Nat) (f : FileM), 16 * (i + l.length) ≤ 100000000 → l[j]? = some f → ((filesF head i l).find? fun p => decide (p.1 = nameB head (16 * (i + j)))).map (·.2) = some f
  | f0 :: l, i, 0, f, _, h => by
    show (((nameB head (16 * i), f0) :: filesF head (i + 1) l).find? _).map _ = _
    rw [List.find?_cons_of_pos (by simp)]
    simpa using h
  | f0 :: l, i, j + 1, f, hb, h => by
    show (((nameB head (16 * i), f0) :: filesF head (i + 1) l).find? _).map _ = _
    rw [List.length_cons] at hb
    have hj := (List.getElem?_eq_some_iff.1 h).1
    rw [List.length_cons] at hj
    rw [List.find?_cons_of_neg (by
      simp only [decide_eq_true_eq]
      intro hx
      have := nameB_inj head (by omega) (by omega) hx
      omega)]
    rw [show i + (j + 1) = (i + 1) + j by omega]
    exact filesF_find head l (i + 1) j f (by omega) (by simpa using h)
theorem filesF_none (head : ByteArray) (l : List FileM) (i k : Nat) (hb : 16 * (i + l.length) ≤ 100000000) (hk : 16 * k ≤ 99999999) (h : i + l.length ≤ k) : ((filesF head i l).find? fun p => decide (p.1 = nameB head (16 * k))).map (·.2) = none := by
  rw [Option.map_eq_none_iff, List.find?_eq_none]
  intro p hp hx
  obtain ⟨j, f, h1, h2, h3, rfl⟩ := filesF_mem head l i p hp
  simp only [decide_eq_true_eq] at hx
  have := nameB_inj head (by omega) (by omega) hx
  omega

/-- The names of such a disk, as List tells them. -/
theorem names_files (head : ByteArray) (st : St) (l : List FileM) (h : st.fs = filesF head 0 l) (hb : 16 * l.length ≤ 100000000) : namesS head st = (filesF head 0 l).map (·.1) := by
  unfold namesS
  rw [h]
  have h1 : (filesF head 0 l).filter (fun p => Lib.hasPrefix p.1.data.toList head.data.toList) = filesF head 0 l := by
    rw [List.filter_eq_self]
    intro p hp
    obtain ⟨j, f, _, _, _, rfl⟩ := filesF_mem head l 0 p hp
    exact nameB_pre head _
  rw [h1]
  have hs : ∀ (l : List FileM) (i : Nat), 16 * (i + l.length) ≤ 100000000 → ((filesF head i l).map fun p => p.1.data.toList).Pairwise fun x y => decide (x ≤ y) = true := by
    intro l
    induction l with
    | nil => exact fun _ _ => List.Pairwise.nil
    | cons f l ih =>
      intro i hb
      rw [List.length_cons] at hb
      show (((nameB head (16 * i), f) :: filesF head (i + 1) l).map fun p => p.1.data.toList).Pairwise _
      rw [List.map_cons, List.pairwise_cons]
      refine ⟨fun y hy => ?_, ih (i + 1) (by omega)⟩
      obtain ⟨p, hp, rfl⟩ := List.mem_map.1 hy
      obtain ⟨j, f', h1, h2, _, rfl⟩ := filesF_mem head l (i + 1) p hp
      exact decide_eq_true (nameB_le head (by omega) (by omega) (by omega))
  rw [List.mergeSort_of_pairwise (hs l 0 (by omega)), List.map_map]
  exact List.map_congr_left fun p _ => by simp
end Go.Proofs.Ytmmnoieafndgjaa

namespace Go.Proofs.Ytmmnoieafndgjaa
open Go.RowKit Go.Deep
set_option linter.unusedVariables false
set_option linter.unusedSimpArgs false

/-- Where the row ends, where its next segment would begin, and which files are none of its. -/
def openL (head : ByteArray) : Nat → List FileM → Nat × Nat × List ByteArray
  | i, [] => (16 * i, 16 * i, [])
  | i, f :: fl => if f.bytes.length = 16 then openL head (i + 1) fl else (16 * i + f.bytes.length, 16 * i + 16, (filesF head (i + 1) fl).map (·.1))
def rowS (head : ByteArray) (e x : Nat) : RowM := ⟨head, 16, 0, e, x, 0, 0⟩
theorem gathF_at (st : St) (x : RowM × Bool × List ByteArray) (u : Nat) (hu : u ≤ 99999999) (head : ByteArray) (hh : x.1.head = head) :
    gathF st x (nameB head u) = ((takeR x.1 x.2.1 u (st.len (nameB head u))).1, (takeR x.1 x.2.1 u (st.len (nameB head u))).2.1, if (takeR x.1 x.2.1 u (st.len (nameB head u))).2.2 = true then x.2.2 else x.2.2 ++ [nameB head u]) := by
  unfold gathF
  rw [hh, place_name head u hu]
theorem gath_rej (st : St) (head : ByteArray) : ∀ (l : List FileM) (i : Nat) (m : RowM) (rs : List ByteArray), m.head = head → m.end_ < 16 * (i : Int) → 16 * (i + l.length) ≤ 100000000 →
    ((filesF head i l).map (·.1)).foldl (gathF st) (m, false, rs) = (m, false, rs ++ (filesF head i l).map (·.1))
  | [], i, m, rs, _, _, _ => by simp [filesF]
  | f :: l, i, m, rs, h1, h2, h3 => by
    rw [List.length_cons] at h3
    show ((nameB head (16 * i)) :: (filesF head (i + 1) l).map (·.1)).foldl (gathF st) (m, false, rs) = (m, false, rs ++ (nameB head (16 * i)) :: (filesF head (i + 1) l).map (·.1))
    rw [List.foldl_cons, gathF_at st (m, false, rs) (16 * i) (by omega) head h1]
    have ht : takeR m false (16 * i) (st.len (nameB head (16 * i))) = (m, false, false) := by
      unfold takeR
      split
      · rfl
      · rw [if_neg (by simp), if_pos (by omega)]
    simp only [ht]
    rw [if_neg (by simp), gath_rej st head l (i + 1) m _ h1 (by omega) (by omega), List.append_assoc]
    rfl
theorem gath_row (st : St) (head : ByteArray) : ∀ (l : List FileM) (i : Nat) (fst : Bool), (fst = true → i = 0) → (∀ j f, l[j]? = some f → st.len (nameB head (16 * (i + j))) = f.bytes.length ∧ f.bytes.length ≤ 16) → 16 * (i + l.length) ≤ 100000000 →
    ∃ f', ((filesF head i l).map (·.1)).foldl (gathF st) (rowS head (16 * i) (16 * i), fst, []) = (rowS head (openL head i l).1 (openL head i l).2.1, f', (openL head i l).2.2)
  | [], i, fst, _, _, _ => ⟨fst, rfl⟩
  | f :: l, i, fst, h1, h2, h3 => by
    rw [List.length_cons] at h3
    obtain ⟨e1, e2⟩ := h2 0 f (by simp)
    rw [Nat.add_zero] at e1
    have ht : takeR (rowS head (16 * i) (16 * i)) fst (16 * i) (st.len (nameB head (16 * i))) = (rowS head (16 * i + f.bytes.length) (16 * i + 16), false, true) := by
      rw [e1]
      unfold takeR rowS
      simp only
      rw [if_neg (by omega)]
      cases fst with
      | true =>
        obtain rfl := h1 rfl
        rw [if_pos rfl]
        simp
      | false =>
        rw [if_neg (by simp), if_neg (by simp)]
        simp
    have hstep : ((filesF head i (f :: l)).map (·.1)).foldl (gathF st) (rowS head (16 * i) (16 * i), fst, []) = ((filesF head (i + 1) l).map (·.1)).foldl (gathF st) (rowS head (16 * i + f.bytes.length) (16 * i + 16), false, []) := by
      show ((nameB head (16 * i)) :: (filesF head (i + 1) l).map (·.1)).foldl (gathF st) _ = _
      rw [List.foldl_cons, gathF_at st _ (16 * i) (by omega) head rfl]
      simp only [ht]
      rfl
    rw [hstep]
    by_cases h16 : f.bytes.length = 16
    · have ho : openL head i (f :: l) = openL head (i + 1) l := if_pos h16
      rw [ho, h16, show 16 * i + 16 = 16 * (i + 1) by omega]
      exact gath_row st head l (i + 1) false (fun h => by cases h) (fun j f' hj => by
        have := h2 (j + 1) f' (by simpa using hj)
        rwa [show i + (j + 1) = i + 1 + j by omega] at this) (by omega)
    · have ho : openL head i (f :: l) = (16 * i + f.bytes.length, 16 * i + 16, (filesF head (i + 1) l).map (·.1)) := if_neg h16
      rw [ho]
      refine ⟨false, ?_⟩
      rw [gath_rej st head l (i + 1) _ [] rfl (by show ((16 * i + f.bytes.length : Nat) : Int) < _; omega) (by omega)]
      rfl
theorem open_files (head : ByteArray) (st : St) (l : List FileM) (h : st.fs = filesF head 0 l) (hl : ∀ f ∈ l, f.bytes.length ≤ 16) (hb : 16 * l.length ≤ 100000000) :
    openM st head 16 = rowS head (openL head 0 l).1 (openL head 0 l).2.1 ∧ openS st head 16 = deleteAll st (openL head 0 l).2.2 := by
  obtain ⟨f', hg⟩ := gath_row st head l 0 true (fun _ => rfl) (fun j f hj => by
    refine ⟨?_, hl f (List.mem_of_getElem? hj)⟩
    have := filesF_find head l 0 j f (by omega) hj
    rw [← h] at this
    unfold St.len St.find
    rw [this]) (by omega)
  have hx : openX st head 16 = (rowS head (openL head 0 l).1 (openL head 0 l).2.1, f', (openL head 0 l).2.2) := by
    unfold openX gathS
    rw [names_files head st l h hb]
    exact hg
  unfold openM openS
  rw [hx]
  exact ⟨rfl, rfl⟩

/-- A text, sixteen bytes a file. -/
def Chunks : List FileM → List UInt8 → Prop
  | [], all => all = []
  | f :: fl, all => f.bytes = all.take 16 ∧ all ≠ [] ∧ Chunks fl (all.drop 16)
theorem Chunks.nil {l : List FileM} (h : Chunks l []) : l = [] := by
  cases l with
  | nil => rfl
  | cons f l => exact absurd rfl h.2.1
theorem chunks_len : ∀ (l : List FileM) (all : List UInt8), Chunks l all → all.length ≤ 16 * l.length ∧ (l ≠ [] → 16 * l.length < all.length + 16)
  | [], all, h => by
    have : all = [] := h
    rw [this]
    exact ⟨Nat.le_refl _, fun h => absurd rfl h⟩
  | f :: l, all, h => by
    obtain ⟨h1, h2, h3⟩ := h
    have := chunks_len l _ h3
    have hp := List.length_pos_iff.2 h2
    rw [List.length_drop] at this
    rw [List.length_cons]
    refine ⟨by omega, fun _ => ?_⟩
    by_cases hl : l = []
    · rw [hl, List.length_nil]; omega
    · have := this.2 hl
      have := List.length_pos_iff.2 hl
      omega
theorem chunks_get : ∀ (l : List FileM) (all : List UInt8) (i : Nat) (f : FileM), Chunks l all → l[i]? = some f → f.bytes = (all.drop (16 * i)).take 16
  | f0 :: l, all, 0, f, h, hf => by
    simp only [List.getElem?_cons_zero, Option.some.injEq] at hf
    subst hf
    exact h.1
  | f0 :: l, all, i + 1, f, h, hf => by
    have := chunks_get l _ i f h.2.2 (by simpa using hf)
    rw [this, List.drop_drop]
    congr 2
    omega
theorem chunks_snoc : ∀ (l : List FileM) (all s : List UInt8) (f : FileM), Chunks l all → all.length = 16 * l.length → f.bytes = s → s ≠ [] → s.length ≤ 16 → Chunks (l ++ [f]) (all ++ s)
  | [], all, s, f, h, h1, h2, h3, h4 => by
    have : all = [] := h
    subst this
    refine ⟨by rw [List.nil_append, h2, List.take_of_length_le h4], h3, ?_⟩
    show (s.drop 16) = []
    exact List.drop_eq_nil_of_le h4
  | f0 :: l, all, s, f, h, h1, h2, h3, h4 => by
    obtain ⟨e1, e2, e3⟩ := h
    rw [List.length_cons] at h1
    have hl : 16 ≤ all.length := by omega
    refine ⟨by rw [List.take_append_of_le_length hl]; exact e1, by simp [h3], ?_⟩
    rw [List.drop_append_of_le_length hl]
    exact chunks_snoc l _ s f e3 (by rw [List.length_drop]; omega) h2 h3 h4
theorem chunks_last : ∀ (l : List FileM) (all s : List UInt8) (f f' : FileM), Chunks (l ++ [f]) all → f'.bytes = f.bytes ++ s → f.bytes.length + s.length ≤ 16 → f.bytes.length < 16 → Chunks (l ++ [f']) (all ++ s)
  | [], all, s, f, f', h, h1, h2, h3 => by
    obtain ⟨e1, e2, e3⟩ := h
    have hf : f.bytes.length = min 16 all.length := by rw [e1, List.length_take]
    have hle : all.length < 16 := by omega
    rw [List.take_of_length_le (by omega)] at e1
    refine ⟨?_, by simp [e2], ?_⟩
    · rw [h1, e1, List.take_of_length_le (by rw [List.length_append, ← e1]; exact h2)]
    · show (all ++ s).drop 16 = []
      exact List.drop_eq_nil_of_le (by rw [List.length_append, ← e1]; exact h2)
  | f0 :: l, all, s, f, f', h, h1, h2, h3 => by
    obtain ⟨e1, e2, e3⟩ := h
    have hl : 16 ≤ all.length := by
      refine Nat.le_of_not_lt fun hx => ?_
      rw [List.drop_eq_nil_of_le (by omega)] at e3
      have := Chunks.nil e3
      simp at this
    refine ⟨by rw [List.take_append_of_le_length hl]; exact e1, by simp [e2], ?_⟩
    rw [List.drop_append_of_le_length hl]
    exact chunks_last l _ s f f' e3 h1 h2 h3
end Go.Proofs.Ytmmnoieafndgjaa

namespace Go.Proofs.Ytmmnoieafndgjaa
open Go.RowKit Go.Deep
set_option linter.unusedVariables false
set_option linter.unusedSimpArgs false

theorem setF_files (head : ByteArray) (f f' : FileM) (B : List FileM) : ∀ (A : List FileM) (i : Nat), 16 * (i + A.length + B.length + 1) ≤ 100000000 → setF (filesF head i (A ++ f :: B)) (nameB head (16 * (i + A.length))) f' = filesF head i (A ++ f' :: B)
  | [], i, hb => by
    show setF ((nameB head (16 * i), f) :: filesF head (i + 1) B) (nameB head (16 * i)) f' = (nameB head (16 * i), f') :: filesF head (i + 1) B
    have h1 : setF (filesF head (i + 1) B) (nameB head (16 * i)) f' = filesF head (i + 1) B := by
      refine setF_none f' fun hx => ?_
      obtain ⟨p, hp, hx⟩ := List.mem_map.1 hx
      obtain ⟨j, g, h1, h2, _, rfl⟩ := filesF_mem head B (i + 1) p hp
      simp only [List.length_nil] at hb
      have := nameB_inj head (by omega) (by omega) hx
      omega
    unfold setF at h1 ⊢
    rw [List.map_cons, if_pos rfl, h1]
  | a :: A, i, hb => by
    rw [List.length_cons] at hb
    show setF ((nameB head (16 * i), a) :: filesF head (i + 1) (A ++ f :: B)) (nameB head (16 * (i + (A.length + 1)))) f' = (nameB head (16 * i), a) :: filesF head (i + 1) (A ++ f' :: B)
    have h1 := setF_files head f f' B A (i + 1) (by omega)
    rw [show i + 1 + A.length = i + (A.length + 1) by omega] at h1
    unfold setF at h1 ⊢
    rw [List.map_cons, h1, if_neg]
    intro hx
    have := nameB_inj head (by omega) (by omega) hx
    omega
theorem putB_end (b s : List UInt8) : putB b b.length s = b ++ s := by
  unfold putB
  split
  · rename_i h; rw [h, List.append_nil]
  · have h1 : (b ++ List.replicate (b.length + s.length - b.length) 0).take b.length = b := by
      rw [List.take_append_of_le_length (Nat.le_refl _), List.take_length]
    have h2 : (b ++ List.replicate (b.length + s.length - b.length) (0 : UInt8)).drop (b.length + s.length) = [] := by
      refine List.drop_eq_nil_of_le ?_
      rw [List.length_append, List.length_replicate]
      omega
    rw [h1, h2, List.append_nil]

/-- A file that was only ever appended to: the writes that wait are its bytes behind its image. -/
structure AppF (f : FileM) : Prop where
  img : f.image = f.bytes.take f.image.length
  wr : ∀ x ∈ f.writes, f.image.length ≤ x.at_ ∧ ∀ k, k < x.s.size → x.s.data.toList[k]? = f.bytes[x.at_ + k]?
theorem AppF.empty : AppF emptyF := ⟨rfl, fun x hx => by cases hx⟩
theorem size_toList (s : ByteArray) : s.data.toList.length = s.size := by rw [Array.length_toList]; rfl
theorem AppF.add {n : Nat} {f : FileM} (h : AppF f) (hg : GoodF n f) (t : Int) (s : ByteArray) : AppF (addF f ⟨t, f.bytes.length, s⟩) := by
  have e : (addF f ⟨t, f.bytes.length, s⟩).bytes = f.bytes ++ s.data.toList := putB_end _ _
  refine ⟨?_, fun x hx => ?_⟩
  · rw [e]
    show f.image = (f.bytes ++ s.data.toList).take f.image.length
    rw [List.take_append_of_le_length hg.image]
    exact h.img
  · rw [e]
    rcases List.mem_append.1 (show x ∈ f.writes ++ [_] from hx) with hx | hx
    · obtain ⟨h1, h2⟩ := h.wr x hx
      have h3 := hg.writes x hx
      exact ⟨h1, fun k hk => by rw [List.getElem?_append_left (by omega)]; exact h2 k hk⟩
    · simp only [List.mem_singleton] at hx
      subst hx
      refine ⟨hg.image, fun k hk => ?_⟩
      show s.data.toList[k]? = (f.bytes ++ s.data.toList)[f.bytes.length + k]?
      rw [List.getElem?_append_right (by omega)]
      congr 1
      omega
/-- A row, alone on its disk, holds a text; up to a place all is synced. -/
structure AgI (n : Nat) (m : RowM) (st : St) (l : List FileM) (all : List UInt8) (safe : Nat) : Prop where
  calm : Calm n st
  cap : st.cap = 1048576
  head : m.head.size ≤ 100
  fs : st.fs = filesF m.head 0 l
  size : m.size = 16
  beg : m.begin_ = 0
  end_ : m.end_ = (all.length : Int)
  next : m.next = ((16 * l.length : Nat) : Int)
  ch : Chunks l all
  app : ∀ f ∈ l, AppF f
  tt : ∃ t : Nat, m.touched = ((16 * t : Nat) : Int) ∧ t ≤ l.length ∧ ∀ i f, i < t → l[i]? = some f → f.writes = []
  held : ∀ (i : Nat) f, l[i]? = some f → min 16 (safe - 16 * i) ≤ f.image.length
  sl : safe ≤ all.length
theorem AgI.bytes {n : Nat} {m : RowM} {st : St} {l : List FileM} {all : List UInt8} {safe : Nat} (h : AgI n m st l all safe) : ∀ f ∈ l, f.bytes.length ≤ 16 := fun f hf => by
  obtain ⟨i, hi⟩ := List.getElem?_of_mem hf
  rw [chunks_get l all i f h.ch hi, List.length_take]
  omega
theorem AgI.len {n : Nat} {m : RowM} {st : St} {l : List FileM} {all : List UInt8} {safe : Nat} (h : AgI n m st l all safe) : l.length ≤ n := by
  have := h.calm.good.len
  rwa [h.fs, filesF_length] at this
theorem AgI.good {n : Nat} {m : RowM} {st : St} {l : List FileM} {all : List UInt8} {safe : Nat} (h : AgI n m st l all safe) {f : FileM} (hf : f ∈ l) : GoodF n f := by
  obtain ⟨i, hi⟩ := List.getElem?_of_mem hf
  have h1 : ∀ (l : List FileM) (k i : Nat), l[i]? = some f → (nameB m.head (16 * (k + i)), f) ∈ filesF m.head k l := by
    intro l
    induction l with
    | nil => exact fun k i h => by cases h
    | cons a l ih =>
      intro k i h
      cases i with
      | zero =>
        simp only [List.getElem?_cons_zero, Option.some.injEq] at h
        subst h
        exact List.mem_cons_self ..
      | succ i =>
        refine List.mem_cons_of_mem _ ?_
        have := ih (k + 1) i (by simpa using h)
        rwa [show k + 1 + i = k + (i + 1) by omega] at this
  have := h1 l 0 i hi
  rw [← h.fs] at this
  exact h.calm.good.files _ this
/-- A new row on a new disk. -/
theorem AgI.new (head : ByteArray) (hh : head.size ≤ 100) (c : Int) (hc : (newSt c).cap = 1048576) : AgI 0 (newRow head 16) (newSt c) [] [] 0 :=
  ⟨new_calm c, hc, hh, rfl, rfl, rfl, rfl, rfl, rfl, fun f hf => (by cases hf), ⟨0, rfl, Nat.le_refl _, fun i f hi => (by omega)⟩, fun i f hf => (by simp at hf), Nat.le_refl _⟩

/-- What is asked of a row for Append. -/
theorem AgI.rowOk {n : Nat} {m : RowM} {st : St} {l : List FileM} {all : List UInt8} {safe : Nat} (h : AgI n m st l all safe) (hn : n ≤ 1000000) : RowOk n m st := by
  have hl := h.len
  have hc := chunks_len l all h.ch
  have h1 := h.size
  have h2 := h.beg
  have h3 := h.end_
  have h4 := h.next
  refine ⟨h.calm, by omega, by omega, by omega, by omega, by omega, by omega, by have := h.head; omega, fun he => ?_, fun he => ?_⟩
  · rw [h4]
    unfold St.find
    rw [h.fs]
    exact filesF_none m.head l 0 l.length (by omega) (by omega) (by omega)
  · have hne : l ≠ [] := fun hx => by
      have h5 := hc.1
      rw [hx, List.length_nil] at h5 h4
      omega
    have hp := List.length_pos_iff.2 hne
    refine ⟨by omega, ?_⟩
    obtain ⟨l0, f, rfl⟩ : ∃ l0 f, l = l0 ++ [f] := ⟨l.dropLast, l.getLast hne, (List.dropLast_concat_getLast hne).symm⟩
    refine ⟨f, ?_, ?_⟩
    · rw [h4, h1, List.length_append]
      have e : (((16 * (l0.length + [f].length) : Nat) : Int) - 16).toNat = 16 * (0 + l0.length) := by simp; omega
      rw [e]
      unfold St.find
      rw [h.fs]
      exact filesF_find m.head (l0 ++ [f]) 0 l0.length f (by omega) (by simp)
    · have hg := chunks_get (l0 ++ [f]) all l0.length f h.ch (by simp)
      rw [hg, List.length_take, List.length_drop, h3, h4, h1]
      rw [List.length_append, List.length_singleton] at hc ⊢
      have := hc.2 hne
      omega
theorem AgI.room {n : Nat} {m : RowM} {st : St} {l : List FileM} {all : List UInt8} {safe : Nat} (h : AgI n m st l all safe) : roomR m = if all.length = 16 * l.length then 16 else ((16 * l.length : Nat) : Int) - all.length := by
  unfold roomR
  rw [h.end_, h.next, h.size]
  by_cases e : all.length = 16 * l.length
  · rw [if_pos e, if_pos (by rw [e])]
  · rw [if_neg e, if_neg (fun hx => e (by exact_mod_cast hx))]
/-- Append, on lists. -/
theorem AgI.append {n : Nat} {m : RowM} {st : St} {l : List FileM} {all : List UInt8} {safe : Nat} (h : AgI n m st l all safe) (hn : n ≤ 1000000) (s : ByteArray) (hs0 : s.size ≠ 0) (hs : (s.size : Int) ≤ roomR m) (hcap : s.size ≤ st.cap - st.size) :
    ∃ l', AgI (n + 2) (appM m s.size) (appS m st s) l' (all ++ s.data.toList) safe := by
  have hok := h.rowOk hn
  obtain ⟨hcalm, hcp, hsz, hl0, hl1, hl2, f, hf, hfl⟩ := hok.pre
  have hr := h.room
  have hl := h.len
  have hc := chunks_len l all h.ch
  have hst : s.data.toList.length = s.size := size_toList s
  have hsne : s.data.toList ≠ [] := fun hx => by rw [hx] at hst; simp at hst; omega
  -- the last file, ahead of the write
  obtain ⟨l0, f0, e1, e2, e3, e4, e5, e6⟩ : ∃ l0 f0, (ps m st).fs = filesF m.head 0 (l0 ++ [f0]) ∧ (lastOf m).toNat = 16 * l0.length ∧ (pm m).next = ((16 * (l0.length + 1) : Nat) : Int) ∧ (∀ f', f'.bytes = f0.bytes ++ s.data.toList → Chunks (l0 ++ [f']) (all ++ s.data.toList)) ∧ AppF f0 ∧
      (∀ i g, (l0 ++ [f0])[i]? = some g → i < l0.length → l[i]? = some g) ∧ (l0.length ≤ l.length) ∧ min 16 (safe - 16 * l0.length) ≤ f0.image.length := by
    by_cases he : m.end_ = m.next
    · have hln : all.length = 16 * l.length := by have := h.end_; have := h.next; omega
      refine ⟨l, emptyF, ?_, ?_, ?_, ?_, AppF.empty, ?_, Nat.le_refl _, ?_⟩
      · unfold ps
        rw [if_pos he, h.calm.createS (hok.fresh he), filesF_append, h.fs, h.next, show (((16 * l.length : Nat) : Int)).toNat = 16 * (0 + l.length) by omega]
        rfl
      · unfold lastOf pm
        rw [if_pos he]
        simp only [h.next, h.size]
        omega
      · unfold pm
        rw [if_pos he]
        simp only [h.next, h.size]
        omega
      · intro f' hf'
        refine chunks_snoc l all _ f' h.ch hln hf' hsne ?_
        rw [hr, if_pos hln] at hs
        omega
      · intro i g hg hi
        rwa [List.getElem?_append_left hi] at hg
      · have := h.sl
        show min 16 (safe - 16 * l.length) ≤ 0
        omega
    · have hln : all.length ≠ 16 * l.length := fun hx => he (by rw [h.end_, h.next, hx])
      have hne : l ≠ [] := fun hx => by
        rw [hx] at hc hln
        simp at hc hln
        exact hln hc
      obtain ⟨l0, f0, hl0⟩ : ∃ l0 f0, l = l0 ++ [f0] := ⟨l.dropLast, l.getLast hne, (List.dropLast_concat_getLast hne).symm⟩
      have hlen : l.length = l0.length + 1 := by rw [hl0]; simp
      have hfb : f0.bytes.length = all.length - 16 * l0.length := by
        rw [chunks_get l all l0.length f0 h.ch (by rw [hl0]; simp), List.length_take, List.length_drop]
        have := hc.2 hne
        omega
      refine ⟨l0, f0, ?_, ?_, ?_, ?_, h.app f0 (by rw [hl0]; simp), ?_, by omega, h.held l0.length f0 (by rw [hl0]; simp)⟩
      · unfold ps
        rw [if_neg he, h.fs, hl0]
      · unfold lastOf pm
        rw [if_neg he, h.next, h.size]
        omega
      · unfold pm
        rw [if_neg he, h.next, hlen]
      · intro f' hf'
        rw [hr, if_neg hln] at hs
        have hch := h.ch
        rw [hl0] at hch
        have hc2 := hc.2 hne
        have hc1 := hc.1
        exact chunks_last l0 all _ f0 f' hch hf' (by omega) (by omega)
      · intro i g hg _
        rw [hl0]
        exact hg
  obtain ⟨e6, e7, e8⟩ := e6
  obtain rfl : f = f0 := by
    have h1 : (ps m st).find (nameB m.head (16 * (0 + l0.length))) = some f0 := by
      unfold St.find
      rw [e1]
      exact filesF_find m.head (l0 ++ [f0]) 0 l0.length f0 (by simp; omega) (by simp)
    rw [e2] at hf
    rw [Nat.zero_add, hf] at h1
    exact Option.some.inj h1
  have hgf : GoodF (n + 1) f := by
    have : ((nameB m.head (16 * l0.length)), f) ∈ (ps m st).fs := by
      rw [e1, filesF_append]
      refine List.mem_append_right _ ?_
      rw [Nat.zero_add]
      exact List.mem_cons_self ..
    exact hcalm.good.files _ this
  have hw := hcalm.writeS (s := s) hf hfl (by rw [hcp, hsz]; exact hcap) hs0
  have hwc := hcalm.write (s := s) hf hfl (by rw [hcp, hsz]; exact hcap) hs0
  rw [show (m.end_ - lastOf m).toNat = f.bytes.length by omega] at hw
  have hset := setF_files m.head f (addF f ⟨((ps m st).turn : Int) + 1, f.bytes.length, s⟩) [] l0 0 (by simp; omega)
  rw [Nat.zero_add] at hset
  have hpm : (pm m).head = m.head ∧ (pm m).size = m.size ∧ (pm m).begin_ = m.begin_ := by unfold pm; split <;> exact ⟨rfl, rfl, rfl⟩
  have hbytes : (addF f ⟨((ps m st).turn : Int) + 1, f.bytes.length, s⟩).bytes = f.bytes ++ s.data.toList := putB_end _ _
  refine ⟨l0 ++ [addF f ⟨((ps m st).turn : Int) + 1, f.bytes.length, s⟩], ⟨hwc, ?_, ?_, ?_, ?_, ?_, ?_, ?_, e4 _ hbytes, ?_, ?_, ?_, ?_⟩⟩
  · show (writeS _ _ _ _).cap = _
    rw [hw]
    exact hcp.trans h.cap
  · show (pm m).head.size ≤ 100
    rw [hpm.1]
    exact h.head
  · show (writeS _ _ _ _).fs = filesF (pm m).head 0 _
    rw [hw, hpm.1, e2]
    show setF (ps m st).fs _ _ = _
    rw [e1]
    exact hset
  · exact hpm.2.1.trans h.size
  · exact hpm.2.2.trans h.beg
  · show m.end_ + (s.size : Int) = _
    rw [h.end_, List.length_append, hst]
    omega
  · show (pm m).next = _
    rw [e3, List.length_append]
    rfl
  · intro g hg
    rcases List.mem_append.1 hg with hg | hg
    · obtain ⟨i, hi⟩ := List.getElem?_of_mem hg
      have hi2 := (List.getElem?_eq_some_iff.1 hi).1
      exact h.app g (List.mem_of_getElem? (e6 i g (by rw [List.getElem?_append_left hi2]; exact hi) hi2))
    · simp only [List.mem_singleton] at hg
      subst hg
      exact e5.add hgf _ s
  · obtain ⟨t, h1, h2, h3⟩ := h.tt
    refine ⟨min t l0.length, ?_, by rw [List.length_append]; omega, fun i g hi hg => ?_⟩
    · show min m.touched (lastOf m) = _
      omega
    · rw [List.getElem?_append_left (by omega)] at hg
      exact h3 i g (by omega) (e6 i g (by rw [List.getElem?_append_left (by omega)]; exact hg) (by omega))
  · intro i g hg
    by_cases hi : i < l0.length
    · rw [List.getElem?_append_left hi] at hg
      exact h.held i g (e6 i g (by rw [List.getElem?_append_left hi]; exact hg) hi)
    · have hi2 := (List.getElem?_eq_some_iff.1 hg).1
      rw [List.length_append, List.length_singleton] at hi2
      obtain rfl : i = l0.length := by omega
      rw [List.getElem?_append_right (Nat.le_refl _), Nat.sub_self] at hg
      simp only [List.getElem?_cons_zero, Option.some.injEq] at hg
      subst hg
      exact e8
  · rw [List.length_append]
    have := h.sl
    omega
end Go.Proofs.Ytmmnoieafndgjaa

namespace Go.Proofs.Ytmmnoieafndgjaa
open Go.RowKit Go.Deep
set_option linter.unusedVariables false
set_option linter.unusedSimpArgs false

theorem places_files (head : ByteArray) : ∀ (B : List FileM) (i : Nat), (plS (16 * (i + B.length)) 16 (16 * i)).map (nameB head) = (filesF head i B).map (·.1)
  | [], i => by rw [List.length_nil, Nat.add_zero, plS_done _ _ _ (by omega)]; rfl
  | f :: B, i => by
    rw [List.length_cons, plS_step _ _ _ (by omega) (by omega), List.map_cons]
    show _ = nameB head (16 * i) :: (filesF head (i + 1) B).map (·.1)
    rw [← places_files head B (i + 1), show i + 1 + B.length = i + (B.length + 1) by omega, show 16 * (i + 1) = 16 * i + 16 by omega]
theorem AgI.touched {n : Nat} {m : RowM} {st : St} {l : List FileM} {all : List UInt8} {safe : Nat} (h : AgI n m st l all safe) : ∃ A B, l = A ++ B ∧ m.touched.toNat = 16 * A.length ∧ rowNames m m.touched.toNat = (filesF m.head A.length B).map (·.1) ∧ (∀ f ∈ A, f.writes = []) := by
  obtain ⟨t, h1, h2, h3⟩ := h.tt
  refine ⟨l.take t, l.drop t, (List.take_append_drop t l).symm, ?_, ?_, fun f hf => ?_⟩
  · rw [List.length_take, Nat.min_eq_left h2]
    omega
  · unfold rowNames
    have e1 : m.next.toNat = 16 * l.length := by have := h.next; omega
    have e2 : m.size.toNat = 16 := by have := h.size; omega
    have e3 : m.touched.toNat = 16 * t := by omega
    have := places_files m.head (l.drop t) t
    rw [List.length_drop, show t + (l.length - t) = l.length by omega] at this
    rw [e1, e2, e3, this, List.length_take, Nat.min_eq_left h2]
  · obtain ⟨i, hi⟩ := List.getElem?_of_mem hf
    have hi2 := (List.getElem?_eq_some_iff.1 hi).1
    rw [List.length_take] at hi2
    rw [List.getElem?_take_of_lt (by omega)] at hi
    exact h3 i f (by omega) hi
end Go.Proofs.Ytmmnoieafndgjaa

namespace Go.Proofs.Ytmmnoieafndgjaa
open Go.RowKit Go.Deep
set_option linter.unusedVariables false
set_option linter.unusedSimpArgs false

theorem putB_get (b : List UInt8) (a : Nat) (s : List UInt8) (hs : s ≠ []) (j : Nat) : (putB b a s)[j]? = if j < a then (if j < b.length then b[j]? else some 0) else if j < a + s.length then s[j - a]? else b[j]? := by
  have hp := List.length_pos_iff.2 hs
  unfold putB
  rw [if_neg hs]
  obtain ⟨z, hz⟩ : ∃ z, z = b ++ List.replicate (a + s.length - b.length) (0 : UInt8) := ⟨_, rfl⟩
  have hzl : z.length = b.length + (a + s.length - b.length) := by rw [hz, List.length_append, List.length_replicate]
  have hzg : ∀ k, k < z.length → z[k]? = if k < b.length then b[k]? else some 0 := fun k hk => by
    rw [hz]
    by_cases hb : k < b.length
    · rw [if_pos hb, List.getElem?_append_left hb]
    · rw [if_neg hb, List.getElem?_append_right (by omega), List.getElem?_replicate, if_pos (by omega)]
  rw [← hz]
  have ht : (z.take a).length = a := by rw [List.length_take]; omega
  by_cases h1 : j < a
  · rw [if_pos h1, List.append_assoc, List.getElem?_append_left (by omega), List.getElem?_take_of_lt h1, hzg j (by omega)]
  · rw [if_neg h1]
    by_cases h2 : j < a + s.length
    · rw [if_pos h2, List.append_assoc, List.getElem?_append_right (by omega), ht, List.getElem?_append_left (by omega)]
    · rw [if_neg h2, List.getElem?_append_right (by rw [List.length_append]; omega), List.length_append, ht, List.getElem?_drop]
      rw [show a + s.length + (j - (a + s.length)) = j by omega]
      by_cases h3 : j < z.length
      · rw [hzg j h3, if_pos (by omega)]
      · rw [List.getElem?_eq_none (by omega), List.getElem?_eq_none (by omega)]

/-- A text that has the first so many bytes of another, is no longer than it, and has its bytes or noughts. -/
structure Like (i0 : Nat) (bs c : List UInt8) : Prop where
  low : i0 ≤ c.length
  high : c.length ≤ bs.length
  get : ∀ j, j < c.length → c[j]? = bs[j]? ∨ (i0 ≤ j ∧ c[j]? = some 0)
theorem Like.refl {i0 : Nat} {bs : List UInt8} (h : i0 ≤ bs.length) : Like i0 bs bs := ⟨h, Nat.le_refl _, fun _ _ => .inl rfl⟩
def PieceB (i0 : Nat) (bs : List UInt8) (x : WriteM) : Prop := i0 ≤ x.at_ ∧ x.at_ + x.s.size ≤ bs.length ∧ ∀ k, k < x.s.size → x.s.data.toList[k]? = bs[x.at_ + k]?
theorem Like.put {i0 : Nat} {bs c : List UInt8} {x : WriteM} (h : Like i0 bs c) (hx : PieceB i0 bs x) : Like i0 bs (putB c x.at_ x.s.data.toList) := by
  obtain ⟨h1, h2, h3⟩ := hx
  have hl := size_toList x.s
  by_cases hs : x.s.data.toList = []
  · rw [hs, putB_nil]; exact h
  · have hlen := putB_length c x.at_ _ hs
    have := h.low
    have := h.high
    refine ⟨by omega, by omega, fun j hj => ?_⟩
    rw [putB_get c x.at_ _ hs j]
    by_cases h4 : j < x.at_
    · rw [if_pos h4]
      by_cases h5 : j < c.length
      · rw [if_pos h5]
        exact h.get j h5
      · rw [if_neg h5]
        exact .inr ⟨by omega, rfl⟩
    · rw [if_neg h4]
      by_cases h5 : j < x.at_ + x.s.data.toList.length
      · rw [if_pos h5]
        left
        rw [h3 (j - x.at_) (by omega), show x.at_ + (j - x.at_) = j by omega]
      · rw [if_neg h5]
        exact h.get j (by omega)

end Go.Proofs.Ytmmnoieafndgjaa

namespace Go.Proofs.Ytmmnoieafndgjaa
open Go.RowKit Go.Deep
set_option linter.unusedVariables false
set_option linter.unusedSimpArgs false

theorem find_drop {fs : List (ByteArray × FileM)} {a b : ByteArray} (hab : a ≠ b) : (dropF fs b).find? (fun p => decide (p.1 = a)) = fs.find? (fun p => decide (p.1 = a)) := by
  unfold dropF
  induction fs with
  | nil => rfl
  | cons p fs ih =>
    rw [List.filter_cons]
    by_cases hb : p.1 = b
    · rw [if_neg (by simp [hb]), ih, List.find?_cons_of_neg (by simp [hb, Ne.symm hab])]
    · rw [if_pos (by simp [hb]), List.find?_cons, List.find?_cons, ih]
theorem find_deleteAll {st : St} {a : ByteArray} {ts : List ByteArray} (h : a ∉ ts) : (deleteAll st ts).find a = st.find a := by
  unfold deleteAll
  induction ts generalizing st with
  | nil => rfl
  | cons t ts ih =>
    rw [List.mem_cons, not_or] at h
    rw [List.foldl_cons, ih h.2]
    unfold St.find removeS
    simp only
    rw [find_drop h.1]
theorem openL_spec (head : ByteArray) : ∀ (l : List FileM) (i : Nat), (∀ f ∈ l, f.bytes.length ≤ 16) → 16 * (i + l.length) ≤ 100000000 →
    (16 * i ≤ (openL head i l).1 ∧ (openL head i l).1 ≤ (openL head i l).2.1 ∧ (openL head i l).2.1 ≤ 16 * (i + l.length)) ∧
    (((openL head i l).1 = 16 * (i + l.length) ∧ ∀ f ∈ l, f.bytes.length = 16) ∨ ∃ t c, l[t]? = some c ∧ (openL head i l).1 = 16 * (i + t) + c.bytes.length ∧ c.bytes.length < 16) ∧
    ∀ k c, l[k]? = some c → 16 * (i + k) < (openL head i l).1 → c.bytes.length = min 16 ((openL head i l).1 - 16 * (i + k)) ∧ nameB head (16 * (i + k)) ∉ (openL head i l).2.2
  | [], i, _, _ => ⟨⟨Nat.le_refl _, Nat.le_refl _, Nat.le_refl _⟩, .inl ⟨rfl, fun f hf => by cases hf⟩, fun k c h => by simp at h⟩
  | f :: l, i, h, hb => by
    rw [List.length_cons] at hb
    by_cases h16 : f.bytes.length = 16
    · have ho : openL head i (f :: l) = openL head (i + 1) l := if_pos h16
      obtain ⟨⟨a1, a2, a3⟩, b, c⟩ := openL_spec head l (i + 1) (fun g hg => h g (List.mem_cons_of_mem _ hg)) (by omega)
      rw [ho, List.length_cons]
      refine ⟨⟨by omega, a2, by omega⟩, ?_, fun k g hk hlt => ?_⟩
      · rcases b with ⟨b1, b2⟩ | ⟨t, g, b1, b2, b3⟩
        · refine .inl ⟨by omega, fun g hg => ?_⟩
          rcases List.mem_cons.1 hg with rfl | hg
          · exact h16
          · exact b2 g hg
        · exact .inr ⟨t + 1, g, by simpa using b1, by omega, b3⟩
      · cases k with
        | zero =>
          simp only [List.getElem?_cons_zero, Option.some.injEq] at hk
          subst hk
          refine ⟨by omega, fun hx => ?_⟩
          have hr : ∀ (l : List FileM) (i : Nat) (t : ByteArray), 16 * (i + l.length) ≤ 100000000 → t ∈ (openL head i l).2.2 → ∃ j, i ≤ j ∧ 16 * j ≤ 99999999 ∧ t = nameB head (16 * j) := by
            intro l
            induction l with
            | nil => intro i t _ ht; cases ht
            | cons f l ih =>
              intro i t hb ht
              rw [List.length_cons] at hb
              by_cases h16 : f.bytes.length = 16
              · have ho : openL head i (f :: l) = openL head (i + 1) l := if_pos h16
                rw [ho] at ht
                obtain ⟨j, h1, h2, h3⟩ := ih (i + 1) t (by omega) ht
                exact ⟨j, by omega, h2, h3⟩
              · have ho : openL head i (f :: l) = (16 * i + f.bytes.length, 16 * i + 16, (filesF head (i + 1) l).map (·.1)) := if_neg h16
                rw [ho] at ht
                obtain ⟨p, hp, rfl⟩ := List.mem_map.1 ht
                obtain ⟨j, g, h1, h2, _, rfl⟩ := filesF_mem head l (i + 1) p hp
                exact ⟨j, by omega, by omega, rfl⟩
          obtain ⟨j, h1, h2, h3⟩ := hr l (i + 1) _ (by omega) hx
          have := nameB_inj head (by omega) (by omega) h3
          omega
        | succ k =>
          have := c k g (by simpa using hk) (by omega)
          rwa [show i + 1 + k = i + (k + 1) by omega] at this
    · have ho : openL head i (f :: l) = (16 * i + f.bytes.length, 16 * i + 16, (filesF head (i + 1) l).map (·.1)) := if_neg h16
      have hf := h f (List.mem_cons_self ..)
      rw [ho, List.length_cons]
      simp only
      refine ⟨⟨by omega, by omega, by omega⟩, .inr ⟨0, f, rfl, rfl, by omega⟩, fun k g hk hlt => ?_⟩
      have hk0 : k = 0 := by omega
      subst hk0
      simp only [List.getElem?_cons_zero, Option.some.injEq] at hk
      subst hk
      refine ⟨by omega, fun hx => ?_⟩
      obtain ⟨p, hp, hx⟩ := List.mem_map.1 hx
      obtain ⟨j, g, h1, h2, _, rfl⟩ := filesF_mem head l (i + 1) p hp
      have := nameB_inj head (by omega) (by omega) hx
      omega

/-- What is left of a row: of how many bytes, and which. -/
structure LeftOf (head : ByteArray) (st : St) (e : Nat) (all : List UInt8) (safe : Nat) : Prop where
  high : e ≤ all.length
  low : safe ≤ e
  file : ∀ i, 16 * i < e → ∃ c, st.find (nameB head (16 * i)) = some c ∧ c.bytes.length = min 16 (e - 16 * i) ∧ ∀ j, j < c.bytes.length → c.bytes[j]? = all[16 * i + j]? ∨ (safe ≤ 16 * i + j ∧ c.bytes[j]? = some 0)
theorem AgI.left {n : Nat} {m : RowM} {st : St} {l : List FileM} {all : List UInt8} {safe : Nat} (h : AgI n m st l all safe) (hn : n ≤ 1000000) {st' : St} {cl : List FileM} (hfs : st'.fs = filesF m.head 0 cl) (hlen : cl.length = l.length)
    (hlike : ∀ (i : Nat) (f : FileM), l[i]? = some f → ∃ c : FileM, cl[i]? = some c ∧ c.writes = [] ∧ Like f.image.length f.bytes c.bytes) :
    ∃ e x, openM st' m.head 16 = rowS m.head e x ∧ e ≤ x ∧ x ≤ 16 * n ∧ LeftOf m.head (openS st' m.head 16) e all safe := by
  have hln := h.len
  have hc := chunks_len l all h.ch
  have hget : ∀ (i : Nat) (c : FileM), cl[i]? = some c → ∃ f, l[i]? = some f ∧ Like f.image.length f.bytes c.bytes := fun i c hi => by
    have hi2 := (List.getElem?_eq_some_iff.1 hi).1
    obtain ⟨f, hf⟩ : ∃ f, l[i]? = some f := ⟨_, List.getElem?_eq_getElem (by omega)⟩
    obtain ⟨c', h1, _, h2⟩ := hlike i f hf
    rw [hi] at h1
    obtain rfl := Option.some.inj h1
    exact ⟨f, hf, h2⟩
  have hle : ∀ f ∈ cl, f.bytes.length ≤ 16 := fun c hcm => by
    obtain ⟨i, hi⟩ := List.getElem?_of_mem hcm
    obtain ⟨f, hf, hl⟩ := hget i c hi
    have := h.bytes f (List.mem_of_getElem? hf)
    have := hl.high
    omega
  obtain ⟨h1, h2⟩ := open_files m.head st' cl hfs hle (by omega)
  obtain ⟨⟨a1, a2, a3⟩, b, c⟩ := openL_spec m.head cl 0 hle (by omega)
  rw [Nat.zero_add] at a3
  obtain ⟨e, he⟩ : ∃ e, e = (openL m.head 0 cl).1 := ⟨_, rfl⟩
  obtain ⟨x, hx⟩ : ∃ x, x = (openL m.head 0 cl).2.1 := ⟨_, rfl⟩
  rw [← he, ← hx] at h1
  rw [← he] at a1 a2 b c
  rw [← hx] at a2 a3
  have hhigh : e ≤ all.length := by
    rcases b with ⟨b1, b2⟩ | ⟨t, g, b1, b2, b3⟩
    · by_cases hne : l = []
      · rw [hne, List.length_nil] at hlen
        omega
      · have hp := List.length_pos_iff.2 hne
        obtain ⟨g, hg⟩ : ∃ g, cl[l.length - 1]? = some g := ⟨_, List.getElem?_eq_getElem (by omega)⟩
        obtain ⟨f, hf, hlk⟩ := hget _ g hg
        have h3 := b2 g (List.mem_of_getElem? hg)
        have h4 := hlk.high
        rw [chunks_get l all _ f h.ch hf, List.length_take, List.length_drop] at h4
        omega
    · obtain ⟨f, hf, hlk⟩ := hget t g b1
      have h4 := hlk.high
      have hi2 := (List.getElem?_eq_some_iff.1 hf).1
      rw [chunks_get l all _ f h.ch hf, List.length_take, List.length_drop] at h4
      have := hc.2 (fun hx => by rw [hx] at hi2; simp at hi2)
      omega
  have hlow : safe ≤ e := by
    have hsl := h.sl
    rcases b with ⟨b1, b2⟩ | ⟨t, g, b1, b2, b3⟩
    · omega
    · obtain ⟨f, hf, hlk⟩ := hget t g b1
      have h3 := h.held t f hf
      have h4 := hlk.low
      omega
  refine ⟨e, x, h1, a2, by omega, hhigh, hlow, fun i hi => ?_⟩
  obtain ⟨g, hg⟩ : ∃ g, cl[i]? = some g := ⟨_, List.getElem?_eq_getElem (by omega)⟩
  obtain ⟨f, hf, hlk⟩ := hget i g hg
  obtain ⟨c1, c2⟩ := c i g hg (by omega)
  rw [Nat.zero_add] at c1 c2
  refine ⟨g, ?_, c1, fun j hj => ?_⟩
  · rw [h2, find_deleteAll c2]
    have := filesF_find m.head cl 0 i g (by omega) hg
    rw [Nat.zero_add] at this
    unfold St.find
    rw [hfs]
    exact this
  · rcases hlk.get j hj with h3 | ⟨h3, h4⟩
    · left
      rw [h3, chunks_get l all i f h.ch hf, List.getElem?_take, if_pos (by omega), List.getElem?_drop]
    · right
      have := h.held i f hf
      exact ⟨by omega, h4⟩
end Go.Proofs.Ytmmnoieafndgjaa

namespace Go.Proofs.Ytmmnoieafndgjaa
open Go.RowKit Go.Deep
set_option linter.unusedVariables false
set_option linter.unusedSimpArgs false
attribute [local go_sem] fr_opt

/-- A disk of the law's own. -/
structure DiskG (w0 w : World) (d : Nat) (g : Gh) (st : St) : Prop where
  disk : DiskAt w g st
  d : g.d = d
  chg : Chg (fun _ => False) w0 w
  low : ∀ k ∈ g.fp, w0.heap.size ≤ k
theorem DiskG.new {w0 w w' : World} {d : Nat} {g : Gh} {st : St} (h : DiskG w0 w d g st) (hc : Chg (fun _ => False) w w') : DiskG w0 w' d g st := ⟨h.disk.new hc, h.d, h.chg.trans hc (fun _ _ x => x), h.low⟩
theorem AgI.more {n n' : Nat} {m : RowM} {st : St} {l : List FileM} {all : List UInt8} {safe : Nat} (h : AgI n m st l all safe) (hn : n ≤ n') : AgI n' m st l all safe :=
  ⟨⟨h.calm.good.more hn, h.calm.lit, h.calm.down⟩, h.cap, h.head, h.fs, h.size, h.beg, h.end_, h.next, h.ch, h.app, h.tt, h.held, h.sl⟩
theorem AgI.names {n : Nat} {m : RowM} {st : St} {l : List FileM} {all : List UInt8} {safe : Nat} (h : AgI n m st l all safe) : ∀ p ∈ st.fs, p.1.size ≤ 1048576 := fun p hp => by
  rw [h.fs] at hp
  obtain ⟨j, f, _, _, _, rfl⟩ := filesF_mem m.head l 0 p hp
  have := h.head
  show (nameB m.head (16 * j)).size ≤ _
  rw [nameB_size]
  omega
end Go.Proofs.Ytmmnoieafndgjaa

