/-
  Part 24: what the statement needs of these texts: SOpen, SApp, SApp2, SAwake.
-/
import Derived.BigQuiet
import Derived.BigRegion
import Derived.Deep.OwnRows
import Derived.Deep.QuietTactic
import Derived.Deep.RegionHeld3
import Derived.IntWalk
import Derived.Laws.CopyOwn
import Derived.Laws.OwnMore
import Derived.Laws.RangeAny
import Derived.Lib.AppendZerosOnto
import Derived.Lib.Atoi
import Derived.Lib.AtoiErrMem
import Derived.Lib.BufferRead
import Derived.Lib.BufferWrite
import Derived.Lib.Hide
import Derived.Lib.IndexMore
import Derived.Lib.ItoaNum
import Derived.Lib.LaidTab
import Derived.Lib.Repeat
import Derived.Maps.AppendAt
import Derived.Maps.OwnSet
import Derived.Maps.RangeWalk
import Derived.Orders
import Derived.ProofKit
import Derived.Shelf.Slices.In.SortNone
import Derived.Shelf.Small.Wraps
import Derived.Shelf.Sort.Plain
import Derived.Shelf.Strings.Builder1
import Derived.Shelf.Strings.Prefix
import Derived.Shelf.Strings.Repeat
import Derived.Sort.OwnSorted
import Derived.StillTailTactics
import Derived.StringKeys
import Derived.Test.YtmmnoieafndgjaaProg
import Derived.Test.YtmmnoieafndgjaaRows
import Derived.WalkKit
import Derived.WalkLawsBesides
import Derived.WalkSpells
import Derived.Test.YtmmnoieafndgjaaHm2
import Derived.Test.YtmmnoieafndgjaaHm4
import Derived.Test.YtmmnoieafndgjaaHm6
import Derived.Test.YtmmnoieafndgjaaHm7
import Derived.Test.YtmmnoieafndgjaaHm9
import Derived.Test.YtmmnoieafndgjaaHm12
import Derived.Test.YtmmnoieafndgjaaHm13
import Derived.Test.YtmmnoieafndgjaaHm14
import Derived.Test.YtmmnoieafndgjaaHm15
import Derived.Test.YtmmnoieafndgjaaHm16
import Derived.Test.YtmmnoieafndgjaaHm17
import Derived.Test.YtmmnoieafndgjaaHm18
import Derived.Test.YtmmnoieafndgjaaHm22
import Derived.Test.YtmmnoieafndgjaaHm23
namespace Go.Proofs.Ytmmnoieafndgjaa
open Go.RowKit Go.Deep
attribute [local go_sem] fr_opt

/-- What is opened. -/
def newRow (head : ByteArray) (size : Int) : RowM := ⟨head, size, 0, 0, 0, 0, 0⟩
end Go.Proofs.Ytmmnoieafndgjaa

namespace Go.Proofs.Ytmmnoieafndgjaa
open Go.RowKit Go.Deep
attribute [local go_sem] fr_opt

/-- A fuse that isn't lit, on a disk that isn't down. -/
structure Calm (n : Nat) (st : St) : Prop where
  good : Good n st
  lit : st.lit = false
  down : st.down = false
theorem Calm.burnE {n : Nat} {st : St} (h : Calm n st) : burnE st = 0 := by unfold Go.Proofs.Ytmmnoieafndgjaa.burnE; rw [h.lit]; rfl
theorem Calm.burnS {n : Nat} {st : St} (h : Calm n st) : burnS st = st := by unfold Go.Proofs.Ytmmnoieafndgjaa.burnS; rw [h.lit]; rfl
theorem Calm.createE {n : Nat} {st : St} (h : Calm n st) {nm : ByteArray} (hf : st.find nm = none) : createE st nm = 0 := by
  unfold Go.Proofs.Ytmmnoieafndgjaa.createE
  rw [h.down, hf, h.burnE]
  rfl
theorem Calm.createS {n : Nat} {st : St} (h : Calm n st) {nm : ByteArray} (hf : st.find nm = none) : createS st nm = { st with fs := st.fs ++ [(nm, emptyF)] } := by
  unfold Go.Proofs.Ytmmnoieafndgjaa.createS
  rw [if_neg (by rw [h.down]; simp), if_neg (by rw [hf]; simp), if_pos h.burnE, h.burnS]
theorem Calm.create {n : Nat} {st : St} (h : Calm n st) {nm : ByteArray} (hf : st.find nm = none) : Calm (n + 1) (Go.Proofs.Ytmmnoieafndgjaa.createS st nm) := by
  have hg := h.good.create nm
  refine ⟨hg, ?_, ?_⟩
  · rw [h.createS hf]; exact h.lit
  · rw [h.createS hf]; exact h.down

end Go.Proofs.Ytmmnoieafndgjaa

namespace Go.Proofs.Ytmmnoieafndgjaa
open Go.RowKit Go.Deep
attribute [local go_sem] fr_opt

theorem Calm.writeE {n : Nat} {st : St} (h : Calm n st) {nm : ByteArray} {f : FileM} {a : Int} {s : ByteArray} (hf : st.find nm = some f) (ha : a = f.bytes.length) (hm : s.size ≤ st.cap - st.size) : writeE st nm a s = 0 := by
  unfold Go.Proofs.Ytmmnoieafndgjaa.writeE
  rw [if_neg (by rw [h.down]; simp), hf]
  simp only
  rw [if_neg (by omega), if_neg, h.burnE]
  unfold more
  omega
theorem Calm.writeS {n : Nat} {st : St} (h : Calm n st) {nm : ByteArray} {f : FileM} {a : Int} {s : ByteArray} (hf : st.find nm = some f) (ha : a = f.bytes.length) (hm : s.size ≤ st.cap - st.size) (h0 : s.size ≠ 0) :
    writeS st nm a s = { st with size := st.size + s.size, turn := st.turn + 1, fs := setF st.fs nm (addF f ⟨(st.turn : Int) + 1, a.toNat, s⟩) } := by
  unfold Go.Proofs.Ytmmnoieafndgjaa.writeS
  have hmo : more f a.toNat s.size = s.size := by unfold more; omega
  rw [if_neg (by rw [h.down]; simp), hf]
  simp only
  rw [if_neg (by omega), if_neg (by rw [hmo]; omega), if_pos h.burnE, if_neg h0, h.burnS, hmo]
theorem Calm.write {n : Nat} {st : St} (h : Calm n st) {nm : ByteArray} {f : FileM} {a : Int} {s : ByteArray} (hf : st.find nm = some f) (ha : a = f.bytes.length) (hm : s.size ≤ st.cap - st.size) (h0 : s.size ≠ 0) : Calm (n + 1) (Go.Proofs.Ytmmnoieafndgjaa.writeS st nm a s) := by
  have hg := h.good.write nm a s
  refine ⟨hg, ?_, ?_⟩
  · rw [h.writeS hf ha hm h0]; exact h.lit
  · rw [h.writeS hf ha hm h0]; exact h.down

/-- The row, and its disk, ahead of the write. -/
def pm (m : RowM) : RowM := if m.end_ = m.next then { m with next := m.next + m.size } else m
def ps (m : RowM) (st : St) : St := if m.end_ = m.next then createS st (nameB m.head m.next.toNat) else st
def lastOf (m : RowM) : Int := (pm m).next - (pm m).size
def appM (m : RowM) (k : Nat) : RowM := { pm m with end_ := m.end_ + k, touched := min m.touched (lastOf m) }
def appS (m : RowM) (st : St) (s : ByteArray) : St := writeS (ps m st) (nameB m.head (lastOf m).toNat) (m.end_ - lastOf m) s
def roomR (m : RowM) : Int := if m.end_ = m.next then m.size else m.next - m.end_
/-- What is asked of a row. -/
structure RowOk (n : Nat) (m : RowM) (st : St) : Prop where
  calm : Calm n st
  beg : 0 ≤ m.begin_
  e0 : 0 ≤ m.end_
  en : m.end_ ≤ m.next
  nx : m.next ≤ 99999999
  s1 : 16 ≤ m.size
  s2 : m.size ≤ 4096
  head : m.head.size ≤ 1048576
  fresh : m.end_ = m.next → st.find (nameB m.head m.next.toNat) = none
  last : m.end_ ≠ m.next → m.size ≤ m.next ∧ ∃ f, st.find (nameB m.head (m.next - m.size).toNat) = some f ∧ m.end_ - (m.next - m.size) = (f.bytes.length : Int)
theorem find_snoc_new {fs : List (ByteArray × FileM)} {nm : ByteArray} {f : FileM} (h : (fs.find? fun p => decide (p.1 = nm)).map (·.2) = none) : ((fs ++ [(nm, f)]).find? fun p => decide (p.1 = nm)).map (·.2) = some f := by
  rw [Option.map_eq_none_iff] at h
  rw [List.find?_append, h]
  simp
theorem RowOk.pre {n : Nat} {m : RowM} {st : St} (h : RowOk n m st) : Calm (n + 1) (ps m st) ∧ (ps m st).cap = st.cap ∧ (ps m st).size = st.size ∧ 0 ≤ lastOf m ∧ lastOf m ≤ 99999999 ∧ lastOf m ≤ m.end_ ∧
    ∃ f, (ps m st).find (nameB m.head (lastOf m).toNat) = some f ∧ m.end_ - lastOf m = (f.bytes.length : Int) := by
  have h1 := h.e0
  have h2 := h.en
  have h3 := h.nx
  have h4 := h.s1
  unfold ps lastOf pm
  by_cases he : m.end_ = m.next
  · rw [if_pos he, if_pos he, h.calm.createS (h.fresh he)]
    have hc := h.calm.create (h.fresh he)
    rw [h.calm.createS (h.fresh he)] at hc
    have e : m.next + m.size - m.size = m.next := by omega
    simp only [e]
    refine ⟨hc, trivial, trivial, by omega, by omega, by omega, emptyF, find_snoc_new (h.fresh he), ?_⟩
    rw [he]
    show m.next - m.next = ((([] : List UInt8).length : Nat) : Int)
    simp
  · rw [if_neg he, if_neg he]
    obtain ⟨h5, f, hf, hl⟩ := h.last he
    exact ⟨⟨h.calm.good.more (Nat.le_succ n), h.calm.lit, h.calm.down⟩, rfl, rfl, by omega, by omega, by omega, f, hf, hl⟩

end Go.Proofs.Ytmmnoieafndgjaa

namespace Go.Proofs.Ytmmnoieafndgjaa
open Go.RowKit Go.Deep
attribute [local go_sem] fr_opt

theorem new_calm (c : Int) : Calm 0 (newSt c) := ⟨Good.new c, rfl, rfl⟩
end Go.Proofs.Ytmmnoieafndgjaa

