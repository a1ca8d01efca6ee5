/-
  Part 13: what the statement needs of these texts: SDig.
-/
import Derived.BigQuiet
import Derived.Deep.OwnRows
import Derived.Deep.QuietTactic
import Derived.Laws.RangeAny
import Derived.Lib.Atoi
import Derived.Lib.Hide
import Derived.Lib.IndexMore
import Derived.Lib.ItoaNum
import Derived.Lib.Repeat
import Derived.ProofKit
import Derived.Test.YtmmnoieafndgjaaRows
import Derived.WalkKit
import Derived.WalkLawsBesides
import Derived.WalkSpells
import Derived.Test.YtmmnoieafndgjaaHm4
namespace Go.Proofs.Ytmmnoieafndgjaa
open Go.RowKit Go.Deep

/-- The eight digits of a number. -/
def dec8 (u : Nat) : List UInt8 := (List.range 8).map fun t => Lib.dg u (7 - t)
theorem dec8_length (u : Nat) : (dec8 u).length = 8 := by simp [dec8]
theorem dec8_eq (u : Nat) : dec8 u = [Lib.dg u 7, Lib.dg u 6, Lib.dg u 5, Lib.dg u 4, Lib.dg u 3, Lib.dg u 2, Lib.dg u 1, Lib.dg u 0] := rfl
def isDig (b : UInt8) : Prop := 48 ≤ b.toNat ∧ b.toNat ≤ 57
theorem dg_dig (u j : Nat) : isDig (Lib.dg u j) ∧ (Lib.dg u j).toNat = 48 + u / 10 ^ j % 10 := by
  have h : u / 10 ^ j % 10 < 10 := Nat.mod_lt _ (by decide)
  have e : (Lib.dg u j).toNat = 48 + u / 10 ^ j % 10 := by
    unfold Lib.dg
    rw [UInt8.toNat_ofNat']
    omega
  unfold isDig
  omega
theorem dec8_dig (u : Nat) : ∀ b ∈ dec8 u, isDig b := fun b hb => by
  obtain ⟨t, _, rfl⟩ := List.mem_map.1 hb
  exact (dg_dig u _).1
/-- What eight digits spell. -/
def val8 (l : List UInt8) : Nat := l.foldl (fun a b => a * 10 + (b.toNat - 48)) 0
theorem val8_dec8 (u : Nat) (h : u < 100000000) : val8 (dec8 u) = u := by
  have h7 := (dg_dig u 7).2
  have h6 := (dg_dig u 6).2
  have h5 := (dg_dig u 5).2
  have h4 := (dg_dig u 4).2
  have h3 := (dg_dig u 3).2
  have h2 := (dg_dig u 2).2
  have h1 := (dg_dig u 1).2
  have h0 := (dg_dig u 0).2
  rw [dec8_eq]
  unfold val8
  simp only [List.foldl_cons, List.foldl_nil]
  omega
/-- A segment's name. -/
def nameB (head : ByteArray) (u : Nat) : ByteArray := head ++ ⟨(dec8 u).toArray⟩
theorem nameB_size (head : ByteArray) (u : Nat) : (nameB head u).size = head.size + 8 := by
  unfold nameB
  rw [ByteArray.size_append]
  show head.size + (dec8 u).toArray.size = _
  simp [dec8_length]
theorem nameB_toList (head : ByteArray) (u : Nat) : (nameB head u).data.toList = head.data.toList ++ dec8 u := by
  unfold nameB
  simp
/-- What a name tells. -/
def placeB (head s : ByteArray) : Option Nat :=
  if Lib.hasPrefix s.data.toList head.data.toList = true then
    (let t := Lib.trimPrefix s.data.toList head.data.toList
     if t.length = 8 ∧ ∀ b ∈ t, 48 ≤ b.toNat ∧ b.toNat ≤ 57 then some (val8 t) else none)
  else none
end Go.Proofs.Ytmmnoieafndgjaa

