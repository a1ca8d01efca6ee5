/-
  The contract of Rename.
-/
import Derived.Test.YtgephceihkkokaaGreatDoorDCutD
namespace Go.Proofs.YtgephceihkkokaaGreatDoor
open Go.RowKit Go.Deep

def moveS (st : St) (a b : ByteArray) (f : FileM) : St := { removeS st b with fs := dropF (dropF st.fs b) a ++ [(b, f)] }
def renameE (st : St) (a : ByteArray) : Int := if st.down = true then 8 else match st.find a with | none => 9 | some _ => burnE st
def renameS (st : St) (a b : ByteArray) : St := if st.down = true then st else match st.find a with
  | none => st
  | some f => if burnE st = 0 then (if a = b then burnS st else moveS (burnS st) a b f) else burnS st

/-- A file's name is another. -/
def named (e : Ent) (b : ByteArray) : Ent := { e with name := b }
theorem named_name (e : Ent) (b : ByteArray) : (named e b).name = b := rfl
theorem named_blk (e : Ent) (b : ByteArray) : (named e b).blk = e.blk := rfl
theorem EntAt.named {w : World} {e : Ent} (h : EntAt w e) (b : ByteArray) : EntAt w (named e b) := ⟨h.head, h.image, h.bytes, h.writes, h.apart⟩
theorem without_mem {es : List Ent} {nm : ByteArray} {e : Ent} (he : e ∈ es) (hn : e.name ≠ nm) : e ∈ without es nm := List.mem_filter.2 ⟨he, by simp [hn]⟩
theorem without_get {es : List Ent} (nm : ByteArray) : getE (without es nm) nm = none := by
  unfold getE
  rw [List.find?_eq_none]
  intro e he
  have := (List.mem_filter.1 he).2
  simpa using this
theorem getE_without {es : List Ent} {nm b : ByteArray} (h : getE es nm = none) : getE (without es b) nm = none := by
  unfold getE
  rw [List.find?_eq_none]
  intro e he
  have := getE_none h e (List.mem_filter.1 he).1
  simpa using this
/-- Its blocks are none of the others'. -/
theorem apart_without {w : World} {g : Gh} {st : St} (h : DiskAt w g st) {e : Ent} (he : e ∈ g.es) : ∀ k ∈ e.foot, k ∉ ({ g with es := without g.es e.name } : Gh).fp := by
  obtain ⟨l1, l2, hes⟩ := List.append_of_mem he
  have hap := (fp_perm g hes).nodup_iff.1 h.apart
  intro k hk hx
  refine (List.nodup_append.1 hap).2.2 k hk k ?_ rfl
  unfold rest
  unfold Gh.fp at hx
  simp only [List.mem_cons, List.mem_append, List.mem_flatMap] at hx ⊢
  rcases hx with hx | hx | ⟨x, hx, hkx⟩
  · exact .inl hx
  · exact .inr (.inl hx)
  · refine .inr (.inr ⟨x, ?_, hkx⟩)
    obtain ⟨hxm, hxn⟩ := List.mem_filter.1 hx
    rw [hes] at hxm
    rcases List.mem_append.1 hxm with h1 | h1
    · exact .inl h1
    · rcases List.mem_cons.1 h1 with rfl | h1
      · simp at hxn
      · exact .inr h1

end Go.Proofs.YtgephceihkkokaaGreatDoor
