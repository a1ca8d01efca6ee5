/-
  The contracts of the document's own answers: Text, List, Read, Reads, Same.
-/
import Derived.Test.YtelpkniockhjgaaWNums
namespace Go.Proofs.Ytelpkniockhjgaa.Oc
open Go.RowKit Go.Deep

theorem bytes_of (s : ByteArray) : ∃ l : List UInt8, s = ⟨l.toArray⟩ := ⟨s.data.toList, by simp⟩
theorem size_of (l : List UInt8) : (⟨l.toArray⟩ : ByteArray).size = l.length := by simp [ByteArray.size]

/-- A text's bytes; a list's. -/
def txtB (s : ByteArray) : List UInt8 := numB 2 s.size ++ s.data.toList
def listB (l : List ByteArray) : List UInt8 := numB 1 l.length ++ l.flatMap txtB
theorem txtB_length (s : ByteArray) : (txtB s).length = 2 + s.size := by
  unfold txtB; rw [List.length_append, numB_length]; rfl

theorem Strs.cellAt {w : World} {base : Nat} {a : Option Addr} {len cap : Nat} {ts : List ByteArray} (h : Strs w base (.slice a len cap) ts) {i : Nat} (hi : i < ts.length) : ∃ b o, a = some ⟨b, o, none⟩ ∧ w.cell? ⟨b, o + i, none⟩ = some (.string (ts.getD i ⟨#[]⟩)) := by
  obtain ⟨a', cap', e, h⟩ := h
  cases e
  rcases h with h | ⟨b, o, rfl, _, h⟩
  · subst h; simp at hi
  · exact ⟨b, o, rfl, h i hi⟩
theorem Strs.form {w : World} {base : Nat} {v : Value} {ts : List ByteArray} (h : Strs w base v ts) : ∃ a cap, v = .slice a ts.length cap := by
  obtain ⟨a', cap', e, _⟩ := h
  exact ⟨a', cap', e⟩
theorem Strs.below {w w' : World} {v : Value} {ts : List ByteArray} {B base : Nat} (h : Strs w base v ts) (hb : Below B w w') (hB : w.heap.size ≤ B) : Strs w' base v ts := by
  obtain ⟨a, cap, rfl, h⟩ := h
  refine ⟨a, cap, rfl, ?_⟩
  rcases h with h | ⟨b, o, rfl, hb0, h⟩
  · exact .inl h
  · refine .inr ⟨b, o, rfl, hb0, fun i hi => ?_⟩
    have hlt := World.block_lt_of_cell? _ _ (h i hi)
    exact (hb.cell (p := ⟨b, o + i, none⟩) (Nat.lt_of_lt_of_le hlt hB)).trans (h i hi)

theorem flat_snoc (ts : List ByteArray) (k : Nat) (h : k < ts.length) : (ts.take (k + 1)).flatMap txtB = (ts.take k).flatMap txtB ++ txtB (ts.getD k ⟨#[]⟩) := by
  rw [List.take_succ_eq_append_getElem h, List.flatMap_append, List.flatMap_singleton, List.getD_eq_getElem?_getD, List.getElem?_eq_getElem h]
  rfl
theorem flat_length (ts : List ByteArray) (hs : ∀ t ∈ ts, t.size ≤ 100000) : (ts.flatMap txtB).length ≤ 100002 * ts.length := by
  induction ts with
  | nil => simp
  | cons t ts ih =>
    rw [List.flatMap_cons, List.length_append, txtB_length, List.length_cons]
    have := ih fun x hx => hs x (List.mem_cons_of_mem _ hx)
    have := hs t List.mem_cons_self
    omega

theorem drewN_add (w : World) (d k : Nat) : (w.drewN d).drewN k = w.drewN (d + k) := by simp [World.drewN, Nat.add_assoc]

theorem take_snoc' (ts : List ByteArray) {k : Nat} (h : k < ts.length) : ts.take (k + 1) = ts.take k ++ [ts.getD k ⟨#[]⟩] := by
  rw [List.take_succ_eq_append_getElem h, List.getD_eq_getElem?_getD, List.getElem?_eq_getElem h]
  rfl
theorem ba_toList (s : ByteArray) : (⟨s.toList.toArray⟩ : ByteArray) = s := by
  rw [ByteArray.toList_eq]

end Go.Proofs.Ytelpkniockhjgaa.Oc
