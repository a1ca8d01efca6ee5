/-
  The contract of Waits.
-/
import Derived.Test.YtgephceihkkokaaGreatDoorDRename
namespace Go.Proofs.YtgephceihkkokaaGreatDoor
open Go.RowKit Go.Deep

def waitsE (es : List Ent) : Nat := (es.map fun e => e.f.writes.length).sum
def St.waits (st : St) : Nat := (st.fs.map fun p => p.2.writes.length).sum
theorem waits_eq {w : World} {g : Gh} {st : St} (h : DiskAt w g st) : waitsE g.es = st.waits := by
  unfold waitsE St.waits
  rw [← h.fs, List.map_map]
  rfl
theorem waitsE_perm {a b : List Ent} (h : a.Perm b) : waitsE a = waitsE b := (h.map _).sum_nat
theorem waitsE_append (a b : List Ent) : waitsE (a ++ b) = waitsE a + waitsE b := by simp [waitsE]

/-- How many are to come. -/
def toCome (mb : Option Nat) (w : World) (r : Nat) : Nat := match mb with | none => 0 | some m => w.rangeLeft m r
theorem RangeIn.toCome {w : World} {m r : Nat} {es vis rem : List Ent} {cnt : Nat} (h : RangeIn w (some m) r es vis rem cnt) : toCome (some m) w r = cnt := by
  obtain ⟨_, _, l, left, hr, _⟩ := h
  exact hr.left_eq
theorem RangeIn.perm {w : World} {mb : Option Nat} {r : Nat} {es vis rem : List Ent} {cnt : Nat} (h : RangeIn w mb r es vis rem cnt) : (vis ++ rem).Perm es := by
  cases mb with
  | none => obtain ⟨rfl, rfl, rfl, _⟩ := h; exact List.Perm.refl _
  | some m => exact h.2.1

end Go.Proofs.YtgephceihkkokaaGreatDoor
