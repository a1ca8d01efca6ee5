/-
  The contracts of cutText, cutList and of a reader's Text and List.
-/
import Derived.Test.YtcbjlleigbnogaaNum
import Derived.Deep.OwnRows
namespace Go.Proofs.Ytcbjlleigbnogaa.Oc
open Go.RowKit Go.Deep

/-- A text off s: it, the rest, the error. -/
def textS (s : ByteArray) (most : Int) : ByteArray × ByteArray × Int :=
  if (numS s 2).2.2 = 0 then (if most < (numS s 2).1 then (⟨#[]⟩, ⟨#[]⟩, 6) else cutS (numS s 2).2.1 (numS s 2).1) else (⟨#[]⟩, ⟨#[]⟩, (numS s 2).2.2)

/-- So many texts off s, behind those that are there: they, the rest, the error. -/
def textsS (most : Int) : Nat → ByteArray → List ByteArray → List ByteArray × ByteArray × Int
  | 0, s, acc => (acc, s, 0)
  | n + 1, s, acc => if (textS s most).2.2 = 0 then textsS most n (textS s most).2.1 (acc ++ [(textS s most).1]) else ([], ⟨#[]⟩, (textS s most).2.2)

/-- A list off s. -/
def listS (s : ByteArray) (many most : Int) : List ByteArray × ByteArray × Int :=
  if (numS s 1).2.2 = 0 then (if many < (numS s 1).1 then ([], ⟨#[]⟩, 6) else textsS most (numS s 1).1 (numS s 1).2.1 []) else ([], ⟨#[]⟩, (numS s 1).2.2)

/-- A slice value reads as these texts. -/
def Strs (w : World) (base : Nat) (v : Value) (ts : List ByteArray) : Prop :=
  ∃ a cap, v = .slice a ts.length cap ∧ (ts = [] ∨ ∃ b o, a = some ⟨b, o, none⟩ ∧ base ≤ b ∧ ∀ i, i < ts.length → w.cell? ⟨b, o + i, none⟩ = some (.string (ts.getD i ⟨#[]⟩)))

def ListPost (w : World) (ts : List ByteArray) (rest : ByteArray) (x : Int) (e : Ending) (w' : World) : Prop :=
  ∃ v, e = .returned (.tuple #[v, .string rest, .int .i64 x]) ∧ Strs w' w.heap.size v ts ∧ w.grownBy w' none

theorem numS_lt {s r : ByteArray} {n : Nat} {v : Nat} {y : Int} (h : numS s n = (v, r, y)) : v < 256 ^ n := by
  unfold numS at h
  have hp : 0 < 256 ^ n := Nat.pow_pos (by decide)
  split at h
  · split at h
    · rename_i h0
      obtain ⟨t, r', hc⟩ : ∃ t r', cutS s n = (t, r', 0) := ⟨(cutS s n).1, (cutS s n).2.1, by rw [← h0]⟩
      have hs := cutS_size hc
      rw [hc] at h
      simp only [Prod.mk.injEq] at h
      rw [← h.1]
      have := getN_lt t.data.toList
      rwa [show t.data.toList.length = n by have : t.data.toList.length = t.size := rfl
                                            omega] at this
    · (simp only [Prod.mk.injEq] at h; omega)
  · (simp only [Prod.mk.injEq] at h; omega)

theorem grownBy_new {a b : World} (h : a.grownBy b none) (nq : Nat) {p : Addr} (hp : a.heap.size ≤ p.block) (u : Value) : a.grownBy ((b.drewN nq).setCell p u) none :=
  ⟨h.os, h.tape, h.output, by have := h.size; simpa [World.setCell], fun k hk hn => by rw [Below.heap_setCell _ _ _ _ (by omega)]; exact h.block k hk hn⟩

theorem row_snoc {w : World} {B n : Nat} {acc : List ByteArray} (h : w.rowIs B 9 n (fun i => .string (acc.getD i ⟨#[]⟩))) (t : ByteArray) (nq : Nat) :
    ((w.drewN nq).setCell ⟨B, acc.length, none⟩ (.string t)).rowIs B 9 n (fun i => .string ((acc ++ [t]).getD i ⟨#[]⟩)) := by
  have h' : (w.drewN nq).rowIs B 9 n (fun i => .string (acc.getD i ⟨#[]⟩)) := h
  refine (h'.set acc.length (.string t)).congr fun i _ => ?_
  by_cases e : i = acc.length
  · subst e; simp
  · simp only [e, if_false]
    rcases Nat.lt_or_ge i acc.length with g | g
    · simp [List.getD_eq_getElem?_getD, List.getElem?_append_left g]
    · simp [List.getD_eq_getElem?_getD, List.getElem?_eq_none g, List.getElem?_eq_none (l := acc ++ [t]) (show (acc ++ [t]).length ≤ i by simp; omega)]

def ListsPost (w : World) (b : Nat) (ts : List ByteArray) (s : ByteArray) (x : Int) (e : Ending) (w' : World) : Prop :=
  ∃ v, e = .returned v ∧ Strs w' w.heap.size v ts ∧ Rd w' b s x ∧ w.grownBy w' (some b)

theorem Strs.kept {w w' : World} {base : Nat} {v : Value} {ts : List ByteArray} (h : Strs w base v ts) {r : Option Nat} (hg : w.grownBy w' r) (hr : ∀ k, r = some k → k < base) : Strs w' base v ts := by
  obtain ⟨a, cap, rfl, h⟩ := h
  refine ⟨a, cap, rfl, ?_⟩
  rcases h with h | ⟨b, o, rfl, hb, h⟩
  · exact .inl h
  · exact .inr ⟨b, o, rfl, hb, fun i hi => hg.cell (h i hi) (fun e => by have := hr _ e.symm; simp at this; omega)⟩
theorem Rd.same {w w' : World} {b : Nat} {s : ByteArray} {e : Int} (h : Rd w b s e) (hg : w.grownBy w' none) : Rd w' b s e := by
  unfold Rd; rw [hg.block b h.lt (by simp)]; exact h
theorem grownBy_wide {a b : World} (h : a.grownBy b none) (r : Option Nat) : a.grownBy b r := ⟨h.os, h.tape, h.output, h.size, fun k hk _ => h.block k hk (by simp)⟩

end Go.Proofs.Ytcbjlleigbnogaa.Oc
