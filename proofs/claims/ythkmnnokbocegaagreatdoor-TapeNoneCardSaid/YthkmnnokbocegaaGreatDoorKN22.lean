/-
  Part 22: what the statement needs of these texts: CrcOpen, SealN.
-/
import Derived.BigQuiet
import Derived.Deep.DeepCutAuto
import Derived.Deep.DeepMust
import Derived.Deep.OwnRows
import Derived.Deep.QuietTactic
import Derived.Deep.RegionHeld3
import Derived.Deep.RegionLaw
import Derived.Laws.BitsAllLaws
import Derived.Laws.PanicsMore
import Derived.Laws.Rows
import Derived.Laws.StructEq
import Derived.Lib.Hide
import Derived.ProofKit
import Derived.StillTailTactics
import Derived.Test.YthkmnnokbocegaaGreatDoorRows
import Derived.WalkKit
import Derived.WalkLawsBesides
import Derived.WalkSpells
import Derived.Test.YthkmnnokbocegaaGreatDoorKN1
import Derived.Test.YthkmnnokbocegaaGreatDoorKN5
import Derived.Test.YthkmnnokbocegaaGreatDoorKN6
import Derived.Test.YthkmnnokbocegaaGreatDoorKN11
import Derived.Test.YthkmnnokbocegaaGreatDoorKN14
import Derived.Test.YthkmnnokbocegaaGreatDoorKN16
namespace Go.Proofs.YthkmnnokbocegaaGreatDoor.Cr
open Go.RowKit Go.Deep

/-- Is it what was sealed? -/
def openB (s : ByteArray) : Bool := decide (4 ≤ s.size ∧ s.data.toList.take 4 = numB 4 (crcL (s.data.toList.drop 4)))
/-- What was sealed. -/
def openS (s : ByteArray) : ByteArray := if openB s then s.extract 4 s.size else ⟨#[]⟩
end Go.Proofs.YthkmnnokbocegaaGreatDoor.Cr

namespace Go.Proofs.YthkmnnokbocegaaGreatDoor.Cr
open Go.RowKit Go.Deep

theorem list_of (l : List UInt8) : (⟨l.toArray⟩ : ByteArray).data.toList = l := rfl
theorem size_of (l : List UInt8) : (⟨l.toArray⟩ : ByteArray).size = l.length := rfl
theorem openB_def (s : ByteArray) : openB s = true ↔ 4 ≤ s.data.toList.length ∧ s.data.toList.take 4 = numB 4 (crcL (s.data.toList.drop 4)) := by
  unfold openB
  rw [decide_eq_true_eq]
  rfl
theorem sealB_length (s : ByteArray) : (sealB s).length = 4 + s.size := by
  unfold sealB
  rw [List.length_append, numB_length]
  rfl
theorem sealB_take (s : ByteArray) : (sealB s).take 4 = numB 4 (crcL s.data.toList) := by
  unfold sealB
  rw [List.take_left' (numB_length 4 _)]
theorem sealB_drop (s : ByteArray) : (sealB s).drop 4 = s.data.toList := by
  unfold sealB
  rw [List.drop_left' (numB_length 4 _)]
theorem sealed_opens (s : ByteArray) : openB ⟨(sealB s).toArray⟩ = true := by
  rw [openB_def, list_of, sealB_take, sealB_drop, sealB_length]
  exact ⟨by omega, rfl⟩
theorem sealed_back (s : ByteArray) : openS ⟨(sealB s).toArray⟩ = s := by
  rw [openS, sealed_opens, if_pos rfl]
  apply ByteArray.ext
  apply Array.toList_inj.1
  rw [drop_list, list_of, sealB_drop]
end Go.Proofs.YthkmnnokbocegaaGreatDoor.Cr

