/-
  Part 18: what the statement needs of these texts: DRemove, DDelete, DSyncD, DCutD, DWaits.
-/
import Derived.BigQuiet
import Derived.Deep.OwnRows
import Derived.Deep.QuietTactic
import Derived.IntWalk
import Derived.Laws.CopyOwn
import Derived.Laws.OwnMore
import Derived.Lib.AppendZerosOnto
import Derived.Lib.BufferRead
import Derived.Lib.BufferWrite
import Derived.Lib.Hide
import Derived.Maps.AppendAt
import Derived.Maps.OwnSet
import Derived.Maps.RangeWalk
import Derived.Orders
import Derived.ProofKit
import Derived.StillTailTactics
import Derived.StringKeys
import Derived.Test.YtmmnoieafndgjaaRows
import Derived.WalkKit
import Derived.WalkLawsBesides
import Derived.WalkSpells
import Derived.Test.YtmmnoieafndgjaaHm4
import Derived.Test.YtmmnoieafndgjaaHm6
import Derived.Test.YtmmnoieafndgjaaHm7
import Derived.Test.YtmmnoieafndgjaaHm9
import Derived.Test.YtmmnoieafndgjaaHm12
import Derived.Test.YtmmnoieafndgjaaHm14
import Derived.Test.YtmmnoieafndgjaaHm15
import Derived.Test.YtmmnoieafndgjaaHm16
import Derived.Test.YtmmnoieafndgjaaHm17
namespace Go.Proofs.Ytmmnoieafndgjaa
open Go.RowKit Go.Deep

def removeS (st : St) (nm : ByteArray) : St := { st with size := st.size - st.len nm, fs := dropF st.fs nm }
end Go.Proofs.Ytmmnoieafndgjaa

namespace Go.Proofs.Ytmmnoieafndgjaa
open Go.RowKit Go.Deep

def deleteAll (st : St) (ts : List ByteArray) : St := ts.foldl removeS st
/-- What is asked of a state, as far as its size goes. -/
def SizeOk (st : St) : Prop := st.size = (st.fs.map fun p => p.2.bytes.length).sum ∧ (st.fs.map (·.1)).Nodup
def lenF (fs : List (ByteArray × FileM)) (nm : ByteArray) : Nat := match (fs.find? fun p => decide (p.1 = nm)).map (·.2) with | none => 0 | some f => f.bytes.length
theorem len_eq (st : St) (nm : ByteArray) : st.len nm = lenF st.fs nm := by unfold St.len lenF St.find; rfl
theorem len_split {fs : List (ByteArray × FileM)} (hn : (fs.map (·.1)).Nodup) (nm : ByteArray) :
    (dropF fs nm |>.map fun p => p.2.bytes.length).sum + lenF fs nm = (fs.map fun p => p.2.bytes.length).sum := by
  induction fs with
  | nil => rfl
  | cons a fs ih =>
    rw [List.map_cons, List.nodup_cons] at hn
    unfold dropF lenF at ih ⊢
    rw [List.filter_cons, List.find?_cons]
    by_cases h : a.1 = nm
    · have hx : ∀ x ∈ fs, (!decide (x.1 = nm)) = true := fun x hx => by
        have : x.1 ≠ nm := fun e => hn.1 (h ▸ e ▸ List.mem_map_of_mem hx)
        simp [this]
      rw [if_neg (by simp [h]), filter_id hx]
      simp [h]
      omega
    · rw [if_pos (by simp [h])]
      have h' : decide (a.1 = nm) = false := by simp [h]
      rw [h']
      have := ih hn.2
      simp only [List.map_cons, List.sum_cons]
      omega
theorem SizeOk.len {st : St} (h : SizeOk st) (nm : ByteArray) : st.len nm ≤ st.size := by
  have := len_split h.2 nm
  rw [len_eq, h.1]
  omega
theorem SizeOk.remove {st : St} (h : SizeOk st) (nm : ByteArray) : SizeOk (removeS st nm) := by
  refine ⟨?_, (List.filter_sublist.map _).nodup h.2⟩
  have := len_split h.2 nm
  have h1 := h.1
  unfold removeS
  simp only
  rw [len_eq]
  omega
theorem removeS_le (st : St) (nm : ByteArray) : (removeS st nm).size ≤ st.size := Nat.sub_le _ _
theorem SizeOk.deleteAll {st : St} (h : SizeOk st) (ts : List ByteArray) : SizeOk (deleteAll st ts) ∧ (deleteAll st ts).size ≤ st.size := by
  unfold Go.Proofs.Ytmmnoieafndgjaa.deleteAll
  induction ts generalizing st with
  | nil => exact ⟨h, Nat.le_refl _⟩
  | cons t ts ih =>
    rw [List.foldl_cons]
    have := ih (h.remove t)
    exact ⟨this.1, Nat.le_trans this.2 (removeS_le st t)⟩
theorem SizeOk.burn {st : St} (h : SizeOk st) : SizeOk (burnS st) := by
  unfold SizeOk
  rw [burnS_size, burnS_fs]
  exact h

end Go.Proofs.Ytmmnoieafndgjaa

namespace Go.Proofs.Ytmmnoieafndgjaa
open Go.RowKit Go.Deep

theorem names_setF (fs : List (ByteArray × FileM)) (nm : ByteArray) (f : FileM) : (setF fs nm f).map (·.1) = fs.map (·.1) := by
  unfold setF
  rw [List.map_map]
  refine List.map_congr_left fun p _ => ?_
  simp only [Function.comp]
  split <;> simp_all
/-- All files are within so many bytes. -/
def AllIn (st : St) (n : Nat) : Prop := ∀ p ∈ st.fs, Within p.2 n
theorem find_mem {st : St} {nm : ByteArray} {f : FileM} (h : st.find nm = some f) : (nm, f) ∈ st.fs := by
  unfold St.find at h
  cases hq : st.fs.find? (fun p => decide (p.1 = nm)) with
  | none => rw [hq] at h; cases h
  | some p =>
    rw [hq] at h
    have h1 := List.mem_of_find?_eq_some hq
    have h2 : decide (p.1 = nm) = true := List.find?_some (p := fun p : ByteArray × FileM => decide (p.1 = nm)) hq
    have h3 := of_decide_eq_true h2
    have h4 : p.2 = f := by simpa using h
    rw [← h3, ← h4]
    exact h1
theorem AllIn.set {st : St} {n : Nat} (h : AllIn st n) {f : FileM} (hf : Within f n) (nm : ByteArray) : AllIn { st with fs := setF st.fs nm f } n := by
  intro p hp
  obtain ⟨q, hq, rfl⟩ := List.mem_map.1 hp
  split
  · exact hf
  · exact h q hq
theorem AllIn.burn {st : St} {n : Nat} (h : AllIn st n) : AllIn (burnS st) n := by
  unfold AllIn
  rw [burnS_fs]
  exact h

end Go.Proofs.Ytmmnoieafndgjaa

namespace Go.Proofs.Ytmmnoieafndgjaa
open Go.RowKit Go.Deep

def cutF (f : FileM) (n : Nat) : FileM := ⟨(putAll f.image f.writes).take n, f.bytes.take n, []⟩
def cutS (st : St) (nm : ByteArray) (n : Int) : St := if st.down = true then st else match st.find nm with
  | none => st
  | some f => if n < 0 ∨ (f.bytes.length : Int) < n then st else if burnE st = 0 then { burnS st with size := st.size - (f.bytes.length - n.toNat), fs := setF st.fs nm (cutF f n.toNat) } else burnS st

end Go.Proofs.Ytmmnoieafndgjaa

namespace Go.Proofs.Ytmmnoieafndgjaa
open Go.RowKit Go.Deep

def St.waits (st : St) : Nat := (st.fs.map fun p => p.2.writes.length).sum
/-- How many are to come. -/
def toCome (mb : Option Nat) (w : World) (r : Nat) : Nat := match mb with | none => 0 | some m => w.rangeLeft m r
theorem RangeIn.toCome {w : World} {m r : Nat} {es vis rem : List Ent} {cnt : Nat} (h : RangeIn w (some m) r es vis rem cnt) : toCome (some m) w r = cnt := by
  obtain ⟨_, _, l, left, hr, _⟩ := h
  exact hr.left_eq
theorem RangeIn.perm {w : World} {mb : Option Nat} {r : Nat} {es vis rem : List Ent} {cnt : Nat} (h : RangeIn w mb r es vis rem cnt) : (vis ++ rem).Perm es := by
  cases mb with
  | none => obtain ⟨rfl, rfl, rfl, _⟩ := h; exact List.Perm.refl _
  | some m => exact h.2.1

end Go.Proofs.Ytmmnoieafndgjaa

