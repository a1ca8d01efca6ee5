/-
  RecSame, walked.
-/
import Derived.Test.YtelpkniockhjgaaRecV
namespace Go.Proofs.Ytelpkniockhjgaa
open Go.RowKit Go.Deep
set_option linter.unusedVariables false
set_option linter.unusedSimpArgs false

theorem two_msgs (w : World) (a b : MsgM) (va vb : Value) : ∀ k p, [(a, va), (b, vb)][k]? = some p → ∀ i, i < 10 → (w.alloc (.cells #[.int .i64 a.kind, .int .i64 a.queue, .int .i64 a.due, .int .i64 a.retry, .int .i64 a.ref, .int .i64 a.born, .string a.topic, .string a.tag, .string a.body, va, .int .i64 b.kind, .int .i64 b.queue, .int .i64 b.due, .int .i64 b.retry, .int .i64 b.ref, .int .i64 b.born, .string b.topic, .string b.tag, .string b.body, vb] 24)).cell? ⟨w.heap.size, k * 10 + i, none⟩ = (p.1.cells p.2)[i]? := by
  intro k p hp i hi
  have hc : ∀ j, (w.alloc (.cells #[.int .i64 a.kind, .int .i64 a.queue, .int .i64 a.due, .int .i64 a.retry, .int .i64 a.ref, .int .i64 a.born, .string a.topic, .string a.tag, .string a.body, va, .int .i64 b.kind, .int .i64 b.queue, .int .i64 b.due, .int .i64 b.retry, .int .i64 b.ref, .int .i64 b.born, .string b.topic, .string b.tag, .string b.body, vb] 24)).cell? ⟨w.heap.size, j, none⟩ = (#[.int .i64 a.kind, .int .i64 a.queue, .int .i64 a.due, .int .i64 a.retry, .int .i64 a.ref, .int .i64 a.born, .string a.topic, .string a.tag, .string a.body, va, .int .i64 b.kind, .int .i64 b.queue, .int .i64 b.due, .int .i64 b.retry, .int .i64 b.ref, .int .i64 b.born, .string b.topic, .string b.tag, .string b.body, vb] : Array Value)[j]? := Box.cell (Box.new w _)
  rw [hc]
  match k, hp with
  | 0, hp =>
    simp only [List.getElem?_cons_zero, Option.some.injEq] at hp
    subst hp
    have : i = 0 ∨ i = 1 ∨ i = 2 ∨ i = 3 ∨ i = 4 ∨ i = 5 ∨ i = 6 ∨ i = 7 ∨ i = 8 ∨ i = 9 := by omega
    rcases this with rfl | rfl | rfl | rfl | rfl | rfl | rfl | rfl | rfl | rfl <;> rfl
  | 1, hp =>
    simp only [List.getElem?_cons_succ, List.getElem?_cons_zero, Option.some.injEq] at hp
    subst hp
    have : i = 0 ∨ i = 1 ∨ i = 2 ∨ i = 3 ∨ i = 4 ∨ i = 5 ∨ i = 6 ∨ i = 7 ∨ i = 8 ∨ i = 9 := by omega
    rcases this with rfl | rfl | rfl | rfl | rfl | rfl | rfl | rfl | rfl | rfl <;> rfl
  | k + 2, hp => simp at hp
def IsTrue (w : World) (e : Ending) (w' : World) : Prop := e = .returned (.bool true) ∧ Below w.heap.size w w'
theorem below_alloc3 {a w : World} (h : Below a.heap.size a w) (o : Obj) : Below a.heap.size a (w.alloc o) := h.alloc h.size o
def PutIs (s : ByteArray) (x : Int) (W : World) (e : Ending) (w' : World) : Prop := e = .returned (.tuple #[.string s, .int .i64 x]) ∧ Below W.heap.size W w'
theorem put_at (m : MsgM) (vk : Value) (t : Nat) (w : World) (hs : ∀ W, Below w.heap.size w W → Sized W (m, vk)) (hf : Fine m) (hc : CapOk vk) (ht : ∀ W, Below w.heap.size w W → Cr.Tab W t) :
    ∃ (s : ByteArray) (x : Int), (∀ W, Below w.heap.size w W → Calls Try.prog 7 #[.pointer (some ⟨t, 0, none⟩), m.val vk] W (PutIs s x W)) ∧ (x = 1 ∨ (x = 0 ∧ putO m = some s.data.toList)) := by
  have h0 := hs w (Below.refl _ _)
  refine ⟨⟨((putO m).getD []).toArray⟩, if (putO m).isSome then 0 else 1, fun W h => put_any m vk t W (hs W h).strs hc ⟨h0.topic, h0.tag, Nat.le_trans hf.body (by decide), Nat.le_trans hf.many (by decide), h0.keys⟩ (ht W h), ?_⟩
  cases putO m <;> simp
def NewTo (w : World) (e : Ending) (w' : World) : Prop := ∃ g, e = .returned (.pointer (some ⟨g, 0, none⟩)) ∧ Cr.Tab w' g ∧ g < w'.heap.size ∧ Below w.heap.size w w'
theorem new_at (w : World) : Calls Try.prog 6 #[] w (NewTo w) := (Cr.new_any w).mono fun _ w' h => ⟨_, h.1, h.2.1, by exact Cr.Tab.lt h.2.1, h.2.2⟩
theorem owns_first {w : World} {base n cap g : Nat} {t u : ByteArray} {ts : List ByteArray} (h : w.ownsRow base 9 1 (.slice (some ⟨g, 0, none⟩) n cap) (t :: ts).length ((t :: ts).map Value.string)) :
    (w.setCell ⟨g, 0, none⟩ (.string u)).ownsRow base 9 1 (.slice (some ⟨g, 0, none⟩) n cap) (u :: ts).length ((u :: ts).map Value.string) := by
  obtain ⟨h1, h2⟩ := h
  rcases h2 with ⟨hv, _⟩ | ⟨g', cap', cur, hv, hg, hh, h3, h4, h5, h6⟩
  · cases hv
  · cases hv
    refine ⟨by simp, .inr ⟨g, cap, cur.setIfInBounds 0 (.string u), rfl, hg, ?_, h3, h4, by simpa using h5, ?_⟩⟩
    · unfold World.setCell
      simp [hh, Array.getElem?_modify]
    · rw [Array.toList_setIfInBounds, List.take_set]
      show (List.take ((t :: ts).length * 1) cur.toList).set 0 (.string u) = _
      rw [h6]
      rfl
theorem owns_cell0 {w : World} {base n cap g : Nat} {t : ByteArray} {ts : List ByteArray} (h : w.ownsRow base 9 1 (.slice (some ⟨g, 0, none⟩) n cap) (t :: ts).length ((t :: ts).map Value.string)) :
    n = (t :: ts).length ∧ w.cell? ⟨g, 0, none⟩ = some (.string t) ∧ w.frozen? ⟨g, 0, none⟩ = false ∧ base ≤ g ∧ g < w.heap.size := by
  obtain ⟨h1, h2⟩ := h
  rcases h2 with ⟨hv, _⟩ | ⟨g', cap', cur, hv, hg, hh, h3, h4, h5, h6⟩
  · cases hv
  · cases hv
    have e : cur[0]? = some (.string t) := by
      have e1 : (cur.toList.take ((t :: ts).length * 1))[0]? = ((t :: ts).map Value.string)[0]? := by rw [h6]
      rw [List.getElem?_take, if_pos (by simp), Array.getElem?_toList] at e1
      rw [e1]
      rfl
    exact ⟨rfl, by simp [World.cell?, hh, e], by simp [World.frozen?, hh], hg, (Array.getElem?_eq_some_iff.1 hh).1⟩
theorem owns_low {w : World} {base : Nat} {e : TypeId} {n k : Nat} {v : Value} {xs : List Value} (h : w.ownsRow base e n v k xs) : w.ownsRow 0 e n v k xs := by
  refine ⟨h.1, ?_⟩
  rcases h.2 with h2 | ⟨g, cap, cur, hv, _, h3⟩
  · exact .inl h2
  · exact .inr ⟨g, cap, cur, hv, Nat.zero_le _, h3⟩
theorem longer_ne {a : MsgM} {t : ByteArray} {ts : List ByteArray} (hk : a.keys = t :: ts) : sameB ⟨a.kind, a.queue, a.due, a.retry, a.ref, a.born, a.topic, a.tag, a.body, (t ++ ⟨#[120]⟩) :: ts⟩ a = false := by
  refine Bool.eq_false_iff.2 fun e => ?_
  have h := congrArg MsgM.keys (sameB_iff.1 e)
  dsimp only at h
  rw [hk] at h
  injection h with h _
  have h2 := congrArg ByteArray.size h
  rw [ByteArray.size_append] at h2
  have : (⟨#[120]⟩ : ByteArray).size = 1 := rfl
  omega
end Go.Proofs.Ytelpkniockhjgaa
