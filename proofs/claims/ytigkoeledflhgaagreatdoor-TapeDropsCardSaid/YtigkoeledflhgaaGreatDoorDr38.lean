/-
  Part 38: what the statement needs of these texts: TRow, CRead.
-/
import Derived.BigQuiet
import Derived.BigRegion
import Derived.Deep.OwnRows
import Derived.Deep.QuietTactic
import Derived.Deep.RegionHeld3
import Derived.IntWalk
import Derived.Laws.CopyOwn
import Derived.Laws.OwnMore
import Derived.Laws.RangeAny
import Derived.Lib.AppendZerosOnto
import Derived.Lib.Atoi
import Derived.Lib.AtoiErrMem
import Derived.Lib.BufferRead
import Derived.Lib.BufferWrite
import Derived.Lib.Hide
import Derived.Lib.ItoaNum
import Derived.Lib.LaidTab
import Derived.Lib.Repeat
import Derived.Maps.AppendAt
import Derived.Maps.OwnSet
import Derived.Maps.RangeWalk
import Derived.Orders
import Derived.ProofKit
import Derived.Shelf.GgClosure.StringsIndexFunc
import Derived.Shelf.GgClosure.StringsIndexFuncTop
import Derived.Shelf.LaysM
import Derived.Shelf.SlSortCmp.NoneTotal
import Derived.Shelf.Slices.In.SortNone
import Derived.Shelf.Slices.SearchI
import Derived.Shelf.Small.Wraps
import Derived.Shelf.Sort.Plain
import Derived.Shelf.Strconv.Atoi
import Derived.Shelf.Strconv.Itoa3
import Derived.Shelf.Strings.Builder1
import Derived.Shelf.Strings.Prefix
import Derived.Shelf.Strings.Repeat
import Derived.Sort.KeysCollected
import Derived.Sort.OwnSorted
import Derived.StillTailTactics
import Derived.StringKeys
import Derived.Test.YtigkoeledflhgaaGreatDoorProg
import Derived.Test.YtigkoeledflhgaaGreatDoorRows
import Derived.WalkKit
import Derived.WalkLawsBesides
import Derived.WalkSpells
import Derived.Test.YtigkoeledflhgaaGreatDoorDr5
import Derived.Test.YtigkoeledflhgaaGreatDoorDr9
import Derived.Test.YtigkoeledflhgaaGreatDoorDr10
import Derived.Test.YtigkoeledflhgaaGreatDoorDr13
import Derived.Test.YtigkoeledflhgaaGreatDoorDr17
import Derived.Test.YtigkoeledflhgaaGreatDoorDr18
import Derived.Test.YtigkoeledflhgaaGreatDoorDr19
import Derived.Test.YtigkoeledflhgaaGreatDoorDr20
import Derived.Test.YtigkoeledflhgaaGreatDoorDr21
import Derived.Test.YtigkoeledflhgaaGreatDoorDr23
import Derived.Test.YtigkoeledflhgaaGreatDoorDr24
import Derived.Test.YtigkoeledflhgaaGreatDoorDr25
import Derived.Test.YtigkoeledflhgaaGreatDoorDr27
import Derived.Test.YtigkoeledflhgaaGreatDoorDr29
import Derived.Test.YtigkoeledflhgaaGreatDoorDr34
import Derived.Test.YtigkoeledflhgaaGreatDoorDr35
import Derived.Test.YtigkoeledflhgaaGreatDoorDr36
import Derived.Test.YtigkoeledflhgaaGreatDoorDr37
namespace Go.Proofs.YtigkoeledflhgaaGreatDoor
open Go.RowKit Go.Deep
set_option linter.unusedVariables false
set_option linter.unusedSimpArgs false

/-- A row on its disk: where it lies, its bytes from its begin on; the names. -/
structure RowC (n : Nat) (m : RowM) (st : St) (z i0 j : Nat) (all : List UInt8) : Prop where
  row : RowI n m st z i0 j (z * i0 + all.length)
  ch : ∀ i, i0 ≤ i → i < j → ∃ f, st.find (nameB m.head (z * i)) = some f ∧ f.bytes = (all.drop (z * i - z * i0)).take z
  tight : i0 + 1 < j → z * (j - 1) < z * i0 + all.length
  nm : ∀ p ∈ st.fs, p.1.size ≤ 1048576
theorem RowC.more {n n' : Nat} {m : RowM} {st : St} {z i0 j : Nat} {all : List UInt8} (h : RowC n m st z i0 j all) (hn : n ≤ n') : RowC n' m st z i0 j all := ⟨h.row.more hn, h.ch, h.tight, h.nm⟩
theorem RowC.append {n : Nat} {m : RowM} {st : St} {z i0 j : Nat} {all : List UInt8} (h : RowC n m st z i0 j all) (s : ByteArray) (hs0 : s.size ≠ 0) (hs : (s.size : Int) ≤ roomR m) (hcap : s.size ≤ st.cap - st.size) (hroom : z * (j + 1) ≤ 99000000) :
    RowC (n + 2) (appM m s.size) (appS m st s) z i0 (if z * i0 + all.length = z * j then j + 1 else j) (all ++ s.data.toList) ∧ (appS m st s).size = st.size + s.size ∧ (appS m st s).cap = st.cap := by
  have h6 := h.row.z1
  have h7 := h.row.z2
  have h8 := h.row.e1
  have h9 := h.row.e2
  have hrm := h.row.room_eq
  have hsj : z * (j + 1) = z * j + z := Nat.mul_succ z j
  have hrow := h.row.append s hs0 hs hcap hroom
  obtain ⟨q, hq1, hq3, hq2, hqs, hq4, hq5, ⟨f, f', hf, hfl, hff, hf', hfb⟩, hoth, hsz', hcp', hnm'⟩ := h.row.append_find s hs0 hs hcap
  have hhd : (appM m s.size).head = m.head := by show (pm m).head = _; unfold pm; split <;> rfl
  have hql : z * i0 ≤ z * q := Nat.mul_le_mul_left z hq3
  refine ⟨⟨?_, ?_, fun hx => ?_, ?_⟩, hsz', hcp'⟩
  · rw [List.length_append, size_toList, ← Nat.add_assoc]
    exact hrow
  · rw [hhd, hq1]
    intro i a1 a2
    by_cases hi : i = q
    · subst hi
      refine ⟨f', hf', ?_⟩
      have hf2 : f.bytes = all.drop (z * i - z * i0) := by
        by_cases he : z * i0 + all.length = z * j
        · have hq := hq5 he
          have h0 : f.bytes = [] := List.length_eq_zero_iff.1 (by rw [hfl, hq]; omega)
          rw [h0, List.drop_eq_nil_of_le (by rw [hq]; omega)]
        · have hq := hq4 he
          obtain ⟨f2, hf2, hb2⟩ := h.ch i a1 (by omega)
          rw [hff he] at hf2
          obtain rfl := Option.some.inj hf2
          rw [hb2, List.take_of_length_le]
          rw [List.length_drop]
          omega
      rw [hfb, hf2, List.drop_append_of_le_length (by omega), List.take_of_length_le]
      rw [List.length_append, List.length_drop, size_toList]
      omega
    · have hiq : i < q := by omega
      have hij : i < j := by by_cases he : z * i0 + all.length = z * j; have := hq5 he; omega; have := hq4 he; omega
      obtain ⟨f2, hf2, hb2⟩ := h.ch i a1 hij
      refine ⟨f2, by rw [hoth i hiq]; exact hf2, ?_⟩
      have l1 : z * (i + 1) ≤ z * q := Nat.mul_le_mul_left z hiq
      have l2 : z * (i + 1) = z * i + z := Nat.mul_succ z i
      have l3 : z * i0 ≤ z * i := Nat.mul_le_mul_left z a1
      rw [hb2, List.drop_append_of_le_length (by omega), List.take_append_of_le_length]
      rw [List.length_drop]
      omega
  · rw [hq1, List.length_append, size_toList]
    have : q + 1 - 1 = q := by omega
    rw [this]
    omega
  · intro p hp
    rcases hnm' p.1 (List.mem_map_of_mem hp) with h1 | h1
    · obtain ⟨r, hr, hx⟩ := List.mem_map.1 h1
      rw [← hx]
      exact h.nm r hr
    · rw [h1, nameB_size]
      have := h.row.head
      omega
theorem RowC.sync {n : Nat} {m : RowM} {st : St} {z i0 j : Nat} {all : List UInt8} (h : RowC n m st z i0 j all) (u : Nat) : RowC n (syncedM m) (syncAll st (rowNames m u)) z i0 j all := by
  refine ⟨h.row.sync u, fun i a1 a2 => ?_, h.tight, names_le_of (fun nm hnm => by rw [(syncAll_same st _).1] at hnm; exact hnm) h.nm⟩
  obtain ⟨f, hf, hb⟩ := h.ch i a1 a2
  obtain ⟨f', h1, h2⟩ := find_syncAll_same (rowNames m u) hf
  exact ⟨f', h1, h2.trans hb⟩
theorem RowC.drop {n : Nat} {m : RowM} {st : St} {z i0 j : Nat} {all : List UInt8} (h : RowC n m st z i0 j all) (hij : i0 + 1 < j) : RowC n (dropM m) (deleteAll st [nameB m.head m.begin_.toNat]) z (i0 + 1) j (all.drop z) := by
  have h1 := h.row.size
  have h2 := h.row.beg
  have h5 := h.row.room
  have h6 := h.row.z1
  have h9 := h.row.e2
  have ht := h.tight hij
  have hs0 : z * (i0 + 1) = z * i0 + z := Nat.mul_succ z i0
  have hle : z * (i0 + 1) ≤ z * (j - 1) := Nat.mul_le_mul_left z (by omega)
  have hlen : z * (i0 + 1) + (all.drop z).length = z * i0 + all.length := by rw [List.length_drop]; omega
  have hrow := h.row.drop hij
  refine ⟨by rw [hlen]; exact hrow, fun i a1 a2 => ?_, fun hx => by rw [hlen]; exact ht, fun p hp => h.nm p (deleteAll_sub _ _ p hp)⟩
  · obtain ⟨f, hf, hb⟩ := h.ch i (by omega) a2
    refine ⟨f, ?_, ?_⟩
    · show (deleteAll st [nameB m.head m.begin_.toNat]).find (nameB m.head (z * i)) = some f
      rw [find_deleteAll]
      · exact hf
      · rw [show m.begin_.toNat = z * i0 by omega]
        intro hx
        have hx : nameB m.head (z * i) = nameB m.head (z * i0) := by simpa using hx
        have l1 : z * i ≤ z * j := Nat.mul_le_mul_left z (by omega)
        have l0 : z * i0 ≤ z * j := Nat.mul_le_mul_left z (by omega)
        have := nameB_inj m.head (by omega) (by omega) hx
        have := Nat.eq_of_mul_eq_mul_left (show 0 < z by omega) this
        omega
    · have l3 : z * (i0 + 1) ≤ z * i := Nat.mul_le_mul_left z a1
      rw [hb, List.drop_drop, show z * i - z * i0 = z + (z * i - z * (i0 + 1)) by omega]
theorem RowC.open_ {n : Nat} {m : RowM} {st : St} {z i0 j : Nat} {all : List UInt8} (h : RowC n m st z i0 j all) : RowC n (openM st m.head z) st z i0 j all ∧ openS st m.head z = st ∧ (openM st m.head z).head = m.head := by
  obtain ⟨h1, h2, h3⟩ := h.row.open_
  exact ⟨⟨h1, fun i a1 a2 => by rw [h3]; exact h.ch i a1 a2, h.tight, h.nm⟩, h2, h3⟩
/-- What leave leaves. -/
theorem RowC.leave {n : Nat} {m : RowM} {st : St} {z i0 j : Nat} {all : List UInt8} (h : RowC n m st z i0 j all) (a : Nat) (ha0 : z * i0 ≤ a) (ha1 : a ≤ z * i0 + all.length) :
    ∃ j1 e1, RowC n (leaveM m a) (leaveS m st a) z i0 j1 (all.take (e1 - z * i0)) ∧ z * i0 ≤ e1 ∧ e1 ≤ z * i0 + all.length ∧ a ≤ e1 ∧ (leaveM m a).end_ = (e1 : Int) ∧ (leaveM m a).head = m.head ∧
      (a < e1 → i0 + 1 ≤ j1 ∧ z * (j1 - 1) ≤ a ∧ (i0 + 1 < j1 → z * (j1 - 1) < a)) ∧ (i0 < j → i0 < j1) ∧ (i0 = j → i0 = j1) ∧
      ((e1 = z * i0 + all.length ∧ (leaveM m a).synced = m.synced) ∨ (leaveM m a).synced = min m.synced (e1 : Int)) ∧
      (∀ t ∈ rowNames m (fromM m a).toNat, (st.find t).isSome = true) ∧ Others m.head st (leaveS m st a) := by
  obtain ⟨k, hk, hk0, hka, hkz⟩ := h.row.from_ a
  have h1 := h.row.size
  have h2 := h.row.beg
  have h3 := h.row.end_
  have h4 := h.row.next
  have h5 := h.row.room
  have h6 := h.row.z1
  have h9 := h.row.e2
  have h8 := h.row.e1
  have h10 := h.row.ij
  have hs0 : z * (i0 + 1) = z * i0 + z := Nat.mul_succ z i0
  have hkn : (fromM m a).toNat = z * k := by omega
  have hfd : ∀ t ∈ rowNames m (fromM m a).toNat, (st.find t).isSome = true := h.row.found _ ⟨k, hkn, by omega⟩
  have hot : Others m.head st (leaveS m st a) := Others.delete
  by_cases hkj : k < j
  · have hle1 : z * (k + 1) ≤ z * j := Nat.mul_le_mul_left z (by omega)
    have hs1 : z * (k + 1) = z * k + z := Nat.mul_succ z k
    have hle0 : z * (i0 + 1) ≤ z * k := Nat.mul_le_mul_left z hk0
    have hke : z * k ≤ z * i0 + all.length := by omega
    have hlt : fromM m a < m.next := by omega
    have hM : leaveM m a = { m with next := ((z * k : Nat) : Int), end_ := ((z * k : Nat) : Int), synced := min m.synced ((z * k : Nat) : Int) } := by
      unfold leaveM
      rw [if_pos hlt, hk]
      unfold shrinkM
      have : min m.end_ ((z * k : Nat) : Int) = ((z * k : Nat) : Int) := by omega
      rw [this]
    have hS : leaveS m st a = deleteAll st (rowNames m (z * k)) := by unfold leaveS; rw [hkn]
    have hrow := h.row.leave k hk0 hkj (min m.synced ((z * k : Nat) : Int))
    have hlen : z * i0 + (all.take (z * k - z * i0)).length = z * k := by rw [List.length_take]; omega
    refine ⟨k, z * k, ⟨?_, fun i a1 a2 => ?_, fun hx => ?_, ?_⟩, by omega, hke, hka, by rw [hM], by rw [hM], fun hx => ?_, fun _ => by omega, fun hx => by omega, .inr (by rw [hM]), hfd, hot⟩
    · rw [hM, hS, hlen]; exact hrow
    · obtain ⟨f, hf, hb⟩ := h.ch i a1 (by omega)
      refine ⟨f, ?_, ?_⟩
      · rw [hM, hS]
        show (deleteAll st (rowNames m (z * k))).find (nameB m.head (z * i)) = some f
        rw [find_deleteAll]
        · exact hf
        · intro hx
          obtain ⟨p, hp, hx⟩ := List.mem_map.1 hx
          rw [show m.next.toNat = z * j by omega, show m.size.toNat = z by omega] at hp
          obtain ⟨r, r1, r2, rfl⟩ := (plS_iff (by omega) k j p (by omega)).1 hp
          have l1 : z * i ≤ z * j := Nat.mul_le_mul_left z (by omega)
          have l2 : z * r ≤ z * j := Nat.mul_le_mul_left z (by omega)
          have := nameB_inj m.head (by omega) (by omega) hx
          have := Nat.eq_of_mul_eq_mul_left (show 0 < z by omega) this
          omega
      · have l1 : z * (i + 1) ≤ z * k := Nat.mul_le_mul_left z (by omega)
        have l2 : z * (i + 1) = z * i + z := Nat.mul_succ z i
        have l3 : z * i0 ≤ z * i := Nat.mul_le_mul_left z a1
        rw [hb, List.drop_take, List.take_take]
        congr 1
        omega
    · rw [hlen]
      have l2 : z * (k - 1 + 1) = z * (k - 1) + z := Nat.mul_succ z (k - 1)
      rw [show k - 1 + 1 = k by omega] at l2
      omega
    · rw [hS]; exact fun p hp => h.nm p (deleteAll_sub _ _ p hp)
    · have l2 : z * (k - 1 + 1) = z * (k - 1) + z := Nat.mul_succ z (k - 1)
      rw [show k - 1 + 1 = k by omega] at l2
      refine ⟨hk0, ?_, fun hy => ?_⟩
      · rcases hkz with hkz | hkz
        · subst hkz
          rw [show i0 + 1 - 1 = i0 by omega]; omega
        · omega
      · rcases hkz with hkz | hkz <;> omega
  · have hle : z * j ≤ z * k := Nat.mul_le_mul_left z (by omega)
    have hlt : ¬ fromM m a < m.next := by omega
    have hM : leaveM m a = m := by unfold leaveM; rw [if_neg hlt]
    have hS : leaveS m st a = st := by
      unfold leaveS
      rw [rowNames_nil (by omega) hlt]
      rfl
    have hall : all.take (z * i0 + all.length - z * i0) = all := List.take_of_length_le (by omega)
    refine ⟨j, z * i0 + all.length, ?_, by omega, Nat.le_refl _, ha1, ?_, by rw [hM], fun hx => ?_, fun hx => hx, fun hx => hx, .inl ⟨rfl, by rw [hM]⟩, hfd, hot⟩
    · rw [hM, hS, hall]; exact h
    · rw [hM]; exact h3
    · have hij : i0 < j := Nat.lt_of_le_of_ne h10 fun hx => by subst hx; omega
      have l2 : z * (j - 1 + 1) = z * (j - 1) + z := Nat.mul_succ z (j - 1)
      rw [show j - 1 + 1 = j by omega] at l2
      refine ⟨by omega, ?_, fun hy => ?_⟩
      · rcases hkz with hkz | hkz
        · have hj : j = i0 + 1 := by omega
          subst hj
          rw [show i0 + 1 - 1 = i0 by omega]; omega
        · omega
      · rcases hkz with hkz | hkz <;> omega
theorem RowC.cut {n : Nat} {m : RowM} {st : St} {z i0 q : Nat} {all : List UInt8} (h : RowC n m st z i0 (q + 1) all) (a : Nat) (ha0 : z * q ≤ a) (ha1 : a ≤ z * i0 + all.length) (hq : i0 ≤ q) (ht : i0 + 1 < q + 1 → z * q < a) :
    RowC n (shrinkM m a) (cutS st (nameB m.head (z * q)) ((a : Int) - ((z * q : Nat) : Int))) z i0 (q + 1) (all.take (a - z * i0)) ∧ ∃ f, st.find (nameB m.head (z * q)) = some f ∧ (a : Int) - ((z * q : Nat) : Int) ≤ f.bytes.length := by
  have h1 := h.row.size
  have h5 := h.row.room
  have h6 := h.row.z1
  have h8 := h.row.e1
  have hsq : z * (q + 1) = z * q + z := Nat.mul_succ z q
  have hle0 : z * i0 ≤ z * q := Nat.mul_le_mul_left z hq
  obtain ⟨f, hf, hfb⟩ := h.ch q hq (by omega)
  have hfl : f.bytes.length = z * i0 + all.length - z * q := by rw [hfb, List.length_take, List.length_drop]; omega
  have hk0 : (0 : Int) ≤ (a : Int) - ((z * q : Nat) : Int) := by omega
  have hk1 : (a : Int) - ((z * q : Nat) : Int) ≤ f.bytes.length := by omega
  have hcs := h.row.calm.cutS hf hk0 hk1
  rw [show ((a : Int) - ((z * q : Nat) : Int)).toNat = a - z * q by omega] at hcs
  have hlen : z * i0 + (all.take (a - z * i0)).length = a := by rw [List.length_take]; omega
  have hrow := h.row.cut a ha0 ha1 hq
  refine ⟨⟨by rw [hlen]; exact hrow, fun i a1 a2 => ?_, fun hx => by rw [hlen, show q + 1 - 1 = q by omega]; exact ht hx, ?_⟩, f, hf, hk1⟩
  · show ∃ f', (cutS st (nameB m.head (z * q)) _).find (nameB m.head (z * i)) = some f' ∧ _
    by_cases hi : i = q
    · subst hi
      refine ⟨cutF f (a - z * i), ?_, ?_⟩
      · rw [hcs]
        unfold St.find
        exact find_set_same (f := f) hf
      · show f.bytes.take (a - z * i) = _
        rw [hfb, List.take_take, List.drop_take, List.take_take]
        congr 1
        omega
    · obtain ⟨f2, hf2, hb2⟩ := h.ch i a1 a2
      have hle : z * (i + 1) ≤ z * q := Nat.mul_le_mul_left z (by omega)
      have hsi : z * (i + 1) = z * i + z := Nat.mul_succ z i
      have l3 : z * i0 ≤ z * i := Nat.mul_le_mul_left z a1
      have hne : nameB m.head (z * i) ≠ nameB m.head (z * q) := fun hx => by
        have := nameB_inj m.head (by omega) (by omega) hx
        exact hi (Nat.eq_of_mul_eq_mul_left (by omega) this)
      refine ⟨f2, by rw [find_cut hne]; exact hf2, ?_⟩
      rw [hb2, List.drop_take, List.take_take]
      congr 1
      omega
  · rw [hcs]
    intro p hp
    have : p.1 ∈ (setF st.fs (nameB m.head (z * q)) (cutF f (a - z * q))).map (·.1) := List.mem_map_of_mem hp
    rw [names_setF] at this
    obtain ⟨r, hr, hx⟩ := List.mem_map.1 this
    rw [← hx]
    exact h.nm r hr

/-- What a call on a row leaves. -/
def CTo (w0 w : World) (b : Nat) (g : Gh) (st : St) (H : ByteArray) (n z i0 j : Nat) (all : List UInt8) (sy : Int) (w' : World) : Prop :=
  ∃ g' m' st', RowG w0 w' b g' st' m' ∧ RowTo w b g g' w' ∧ Others H st st' ∧ m'.head = H ∧ m'.synced = sy ∧ RowC n m' st' z i0 j all ∧ st'.cap = st.cap
/-- What Append leaves. -/
def CAppTo (w0 w : World) (b : Nat) (g : Gh) (st : St) (m : RowM) (n z i0 j : Nat) (all : List UInt8) (s : ByteArray) (w' : World) : Prop :=
  ∃ g' m' st', RowG w0 w' b g' st' m' ∧ RowTo w b g g' w' ∧ Others m.head st st' ∧ m'.head = m.head ∧ m'.synced = m.synced ∧ RowC (n + 2) m' st' z i0 (if z * i0 + all.length = z * j then j + 1 else j) (all ++ s.data.toList) ∧ st'.size = st.size + s.size ∧ st'.cap = st.cap
theorem c_append {w0 w : World} {b : Nat} {g : Gh} {st : St} {m : RowM} {n z i0 j : Nat} {all : List UInt8} (hg : RowG w0 w b g st m) (h : RowC n m st z i0 j all) (hn : n ≤ 1000) (s : ByteArray) (hs0 : s.size ≠ 0) (hs : (s.size : Int) ≤ roomR m) (hcap : s.size ≤ st.cap - st.size) (hroom : z * (j + 1) ≤ 99000000) :
    Calls Tryz.prog 44 #[.pointer (some ⟨b, 0, none⟩), .string s] w fun e w' => e = .returned (.tuple #[.int .i64 ((z * i0 + all.length : Nat) : Int), .int .i64 0]) ∧ CAppTo w0 w b g st m n z i0 j all s w' := by
  obtain ⟨hk, hsz, hcp⟩ := h.append s hs0 hs hcap hroom
  refine (append_ok w0 b g st m s n w hg h.row.rowOk (by omega) hs0 hs hcap).mono ?_
  rintro e w' ⟨rfl, g', hg', hto⟩
  refine ⟨by rw [h.row.end_], g', _, _, hg', hto, Others.app, ?_, ?_, hk, hsz, hcp⟩
  · show (pm m).head = _; unfold pm; split <;> rfl
  · show (pm m).synced = _; unfold pm; split <;> rfl
theorem c_sync {w0 w : World} {b : Nat} {g : Gh} {st : St} {m : RowM} {n z i0 j : Nat} {all : List UInt8} (hg : RowG w0 w b g st m) (h : RowC n m st z i0 j all) (hn : n ≤ 1048576) :
    Calls Tryz.prog 47 #[.pointer (some ⟨b, 0, none⟩)] w fun e w' => e = .returned (.int .i64 0) ∧ CTo w0 w b g st m.head n z i0 j all ((z * i0 + all.length : Nat) : Int) w' := by
  obtain ⟨t, t1, t2, t3⟩ := h.row.t0
  have h1 := h.row.size
  have h4 := h.row.next
  have h5 := h.row.room
  have h6 := h.row.z1
  have h7 := h.row.z2
  refine (rsync_any w0 b g st m n w hg h.row.calm hn (by omega) (by omega) (by omega) (by omega) (by have := h.row.head; omega) (by omega) (by omega) (h.row.found _ ⟨t, by omega, t2⟩)).mono ?_
  rintro e w' ⟨rfl, g', hg', hto⟩
  exact ⟨rfl, g', _, _, hg', hto, Others.sync, rfl, h.row.end_, h.sync _, (syncAll_keeps _ _).2.2.1⟩
theorem c_drop {w0 w : World} {b : Nat} {g : Gh} {st : St} {m : RowM} {n z i0 j : Nat} {all : List UInt8} (hg : RowG w0 w b g st m) (h : RowC n m st z i0 j all) (hn : n ≤ 1048576) (hij : i0 + 1 < j) :
    Calls Tryz.prog 50 #[.pointer (some ⟨b, 0, none⟩)] w fun e w' => e = .returned (.tuple #[.int .i64 ((z * (i0 + 1) : Nat) : Int), .int .i64 0]) ∧ CTo w0 w b g st m.head n z (i0 + 1) j (all.drop z) (max m.synced ((z * (i0 + 1) : Nat) : Int)) w' := by
  have h1 := h.row.size
  have h2 := h.row.beg
  have h4 := h.row.next
  have h5 := h.row.room
  have h6 := h.row.z1
  have h7 := h.row.z2
  have hs0 : z * (i0 + 1) = z * i0 + z := Nat.mul_succ z i0
  have hs1 : z * (i0 + 2) = z * (i0 + 1) + z := Nat.mul_succ z (i0 + 1)
  have hle : z * (i0 + 2) ≤ z * j := Nat.mul_le_mul_left z (by omega)
  have hb : m.begin_ + m.size = ((z * (i0 + 1) : Nat) : Int) := by omega
  obtain ⟨f, hf, _⟩ := h.ch i0 (Nat.le_refl _) (by omega)
  refine (drop_ok w0 b g st m n w hg h.row.calm hn (by omega) (by omega) (by omega) (by omega) (by have := h.row.head; omega) (by omega) (by rw [show m.begin_.toNat = z * i0 by omega, hf]; rfl)).mono ?_
  rintro e w' ⟨rfl, g', hg', hto⟩
  refine ⟨by rw [hb], g', _, _, hg', hto, ?_, rfl, ?_, h.drop hij, ?_⟩
  · exact Others.delete1
  · show max m.synced (m.begin_ + m.size) = _
    rw [hb]
  · first | rfl | exact (deleteAll_keeps _ _).2.2 | (unfold delete1; split <;> rfl)
theorem c_drop_few {w0 w : World} {b : Nat} {g : Gh} {st : St} {m : RowM} {n z i0 j : Nat} {all : List UInt8} (hg : RowG w0 w b g st m) (h : RowC n m st z i0 j all) (hij : j ≤ i0 + 1) :
    Calls Tryz.prog 50 #[.pointer (some ⟨b, 0, none⟩)] w fun e w' => e = .returned (.tuple #[.int .i64 0, .int .i64 9]) ∧ CTo w0 w b g st m.head n z i0 j all m.synced w' := by
  have h1 := h.row.size
  have h2 := h.row.beg
  have h4 := h.row.next
  have h5 := h.row.room
  have h6 := h.row.z1
  have h7 := h.row.z2
  have h10 := h.row.ij
  have hs0 : z * (i0 + 1) = z * i0 + z := Nat.mul_succ z i0
  have hle : z * j ≤ z * (i0 + 1) := Nat.mul_le_mul_left z hij
  have hle0 : z * i0 ≤ z * j := Nat.mul_le_mul_left z h10
  refine (drop_few b g.d m w hg.row (by omega) (by omega) (by omega) (by omega) (by omega)).mono ?_
  rintro e w' ⟨rfl, q, rfl⟩
  exact ⟨rfl, g, m, st, hg.drewN q, RowTo.new b g ((Chg.refl _ _).drewN q), Others.refl _ _, rfl, rfl, h, rfl⟩
theorem c_cut {w0 w : World} {b : Nat} {g : Gh} {st : St} {m : RowM} {n z i0 j : Nat} {all : List UInt8} (hg : RowG w0 w b g st m) (h : RowC n m st z i0 j all) (hn : n ≤ 1048576) (a : Nat) (ha0 : z * i0 ≤ a) (ha1 : a ≤ z * i0 + all.length) (hsy : m.synced ≤ m.end_) :
    Calls Tryz.prog 40 #[.pointer (some ⟨b, 0, none⟩), .int .i64 (a : Int)] w fun e w' => e = .returned (.int .i64 0) ∧ ∃ j', (i0 < j → i0 < j') ∧ (i0 = j → i0 = j') ∧ CTo w0 w b g st m.head n z i0 j' (all.take (a - z * i0)) (min m.synced (a : Int)) w' := by
  have h1 := h.row.size
  have h2 := h.row.beg
  have h3 := h.row.end_
  have h4 := h.row.next
  have h5 := h.row.room
  have h6 := h.row.z1
  have h7 := h.row.z2
  have h8 := h.row.e1
  have h10 := h.row.ij
  have hle0 : z * i0 ≤ z * j := Nat.mul_le_mul_left z h10
  have hh := h.row.head
  obtain ⟨j1, e1, hk1, he0, he1, hae, hend, hhd, hin, hj1, hj2, hsyn, hfd, hot⟩ := h.leave a ha0 ha1
  have hL : ∀ W, RowG w0 W b g st m → Calls Tryz.prog 74 #[.pointer (some ⟨b, 0, none⟩), .int .i64 (a : Int)] W fun e w' => e = .returned (.int .i64 0) ∧ ∃ g', RowG w0 w' b g' (leaveS m st a) (leaveM m a) ∧ RowTo W b g g' w' := fun W hW =>
    leave_any w0 b g st m a n W hW h.row.calm hn (by omega) (by omega) (by omega) (by omega) (by omega) (by omega) (by omega) (by omega) hfd
  by_cases hlt : a < e1
  · obtain ⟨hj3, hz1, hz2⟩ := hin hlt
    obtain ⟨q, rfl⟩ : ∃ q, j1 = q + 1 := ⟨j1 - 1, by omega⟩
    rw [show q + 1 - 1 = q by omega] at hz1 hz2
    have hl1 : (all.take (e1 - z * i0)).length = e1 - z * i0 := by rw [List.length_take]; omega
    obtain ⟨hk2, f, hf, hfl⟩ := hk1.cut a hz1 (by rw [hl1]; omega) (by omega) hz2
    have hsq : z * (q + 1) = z * q + z := Nat.mul_succ z q
    have g1 := hk1.row.size
    have g4 := hk1.row.next
    have g5 := hk1.row.room
    have hlq : (leaveM m a).next - (leaveM m a).size = ((z * q : Nat) : Int) := by omega
    have hlqn : ((leaveM m a).next - (leaveM m a).size).toNat = z * q := by omega
    have hc := cut_mid w0 b g st (leaveS m st a) m (leaveM m a) a n f w hg (by omega) (by omega) (by omega) hL (by omega) hk1.row.calm hn (by omega) (by omega) (by rw [hhd]; omega) (by omega) (by omega) (by omega) (by rw [hlqn]; exact hf) (by rw [hlq]; exact hfl)
    refine hc.mono ?_
    rintro e w' ⟨rfl, g', hg', hto⟩
    rw [hlqn, hlq] at hg'
    have htk : (all.take (e1 - z * i0)).take (a - z * i0) = all.take (a - z * i0) := by rw [List.take_take]; congr 1; omega
    rw [htk] at hk2
    refine ⟨rfl, q + 1, hj1, hj2, g', _, _, hg', hto, hot.trans ?_, hhd, ?_, hk2, ?_⟩
    · rw [hhd]; exact Others.cut
    · show min (leaveM m a).synced (a : Int) = _
      rcases hsyn with ⟨_, hx⟩ | hx
      · rw [hx]
      · rw [hx]; omega
    · have hcp : (leaveS m st a).cap = st.cap := (deleteAll_keeps _ _).2.2
      have hbc : ∀ s : St, (burnS s).cap = s.cap := fun s => by unfold burnS; repeat' (first | rfl | split)
      unfold cutS
      repeat' (first | exact hcp | exact (hbc _).trans hcp | split)
  · have hae2 : a = e1 := by omega
    subst hae2
    have hc := cut_end w0 b g st (leaveS m st a) m (leaveM m a) a w hg (by omega) (by omega) hL (by omega)
    refine hc.mono ?_
    rintro e w' ⟨rfl, g', hg', hto⟩
    refine ⟨rfl, j1, hj1, hj2, g', _, _, hg', hto, hot, hhd, ?_, hk1, (deleteAll_keeps _ _).2.2⟩
    rcases hsyn with ⟨hx, hy⟩ | hx
    · rw [hy]; omega
    · rw [hx]
/-- Open, of a row that lies there. -/
def COpen (w0 w : World) (g : Gh) (st : St) (H : ByteArray) (n z i0 j : Nat) (all : List UInt8) (e : Ending) (w' : World) : Prop :=
  ∃ b, e = .returned (.tuple #[.pointer (some ⟨b, 0, none⟩), .int .i64 0]) ∧ w.heap.size ≤ b ∧ ∃ g' m', RowG w0 w' b g' st m' ∧ Gh.To w g g' w' ∧ m'.head = H ∧ m'.synced = ((z * i0 : Nat) : Int) ∧ RowC n m' st z i0 j all
theorem c_open {w0 w : World} {d : Nat} {g : Gh} {st : St} {m : RowM} {n z i0 j : Nat} {all : List UInt8} (hd : DiskG w0 w d g st) (ht : Tab10 w0) (h : RowC n m st z i0 j all) (hn : n ≤ 1048576) :
    Calls Tryz.prog 37 #[.pointer (some ⟨d, 0, none⟩), .string m.head, .int .i64 (z : Int)] w (COpen w0 w g st m.head n z i0 j all) := by
  obtain ⟨h1, h2, h3⟩ := h.open_
  have h6 := h.row.z1
  have h7 := h.row.z2
  have hc := open_calm w0 g st m.head z n w hd.disk hd.chg hd.low ht h.row.calm hn h.nm (by omega) (by omega)
  rw [hd.d, h2] at hc
  refine hc.mono ?_
  rintro e w' ⟨b, rfl, hb, g', hg', hto⟩
  refine ⟨b, rfl, hb, g', _, hg', hto, h3, ?_, h1⟩
  show (openX st m.head z).1.begin_ = _
  exact h1.row.beg
end Go.Proofs.YtigkoeledflhgaaGreatDoor

namespace Go.Proofs.YtigkoeledflhgaaGreatDoor
open Go.RowKit Go.Deep
set_option linter.unusedVariables false
set_option linter.unusedSimpArgs false

/-- The row's Read, within one segment. -/
theorem c_read_in {w0 w : World} {b : Nat} {g : Gh} {st : St} {m : RowM} {n z i0 j : Nat} {all : List UInt8} (k1 : RowG w0 w b g st m) (k6 : RowC n m st z i0 j all) (a k : Nat) (hk : 0 < k) (h1 : z * i0 ≤ a) (h2 : a + k ≤ z * i0 + all.length) (h3 : k ≤ z - a % z) :
    Calls Tryz.prog 52 #[.pointer (some ⟨b, 0, none⟩), .int .i64 a, .int .i64 k] w fun e w' => e = .returned (.tuple #[.string ⟨((all.drop (a - z * i0)).take k).toArray⟩, .int .i64 0]) ∧ Below w.heap.size w w' := by
  have a1 := k6.row.end_
  have a2 := k6.row.beg
  have a3 := k6.row.size
  have a4 := k6.row.z1
  have a5 := k6.row.z2
  have a6 := k6.row.e1
  have a7 := k6.row.room
  have hdm := Nat.div_add_mod a z
  have hml := Nat.mod_lt a (show 0 < z by omega)
  obtain ⟨i, hi⟩ : ∃ i, i = a / z := ⟨_, rfl⟩
  rw [← hi] at hdm
  have hi0 : i0 ≤ i := by rw [hi]; exact (Nat.le_div_iff_mul_le (by omega)).2 (by rw [Nat.mul_comm]; exact h1)
  have hij : i < j := by rw [hi]; exact (Nat.div_lt_iff_lt_mul (by omega)).2 (by rw [Nat.mul_comm]; omega)
  have hzi : z * i0 ≤ z * i := Nat.mul_le_mul_left z hi0
  obtain ⟨f, hf, hfb⟩ := k6.ch i hi0 hij
  have hfl : f.bytes.length = min z (all.length - (z * i - z * i0)) := by rw [hfb, List.length_take, List.length_drop]
  have hmod : (a : Int) % (z : Int) = ((a % z : Nat) : Int) := (Int.natCast_emod a z).symm
  have hleft : (k : Int) ≤ leftR m a := by
    unfold leftR
    rw [a1, a2, a3, hmod]
    split <;> omega
  have hc := rread_ok w0 b g st m a k (z * i) f w k1 k6.row.calm.down (by omega) (by omega) (by omega) (by omega) (by have := k6.row.head; omega) hk hleft (by rw [a3, hmod]; omega) hf (by omega) (by omega)
  have hb : ((f.bytes.drop (a - z * i)).take k) = (all.drop (a - z * i0)).take k := by
    rw [hfb, List.drop_take, List.take_take, List.drop_drop, show min k (z - (a - z * i)) = k from by omega, show z * i - z * i0 + (a - z * i) = a - z * i0 from by omega]
  rw [hb] at hc
  exact hc
end Go.Proofs.YtigkoeledflhgaaGreatDoor

