/-
  The contracts of the functions of octet: what each call answers, and what it does to memory.
-/
import Derived.Test.YtelpkniockhjgaaGreatRows
import Derived.WalkKit
import Derived.WalkSpells
import Derived.WalkLawsBesides
import Derived.Lib.Hide
import Derived.Deep.QuietTactic
import Derived.BigQuiet
namespace Go.Proofs.YtelpkniockhjgaaGreat.Oc
open Go.RowKit

/-- A reader at block b: what is left, and its error. -/
def Rd (w : World) (b : Nat) (s : ByteArray) (e : Int) : Prop :=
  w.heap[b]? = some (.cells #[.string s, .int .i64 e] 94 (0, 0))

theorem Rd.rest {w : World} {b : Nat} {s : ByteArray} {e : Int} (h : Rd w b s e) : w.cell? ⟨b, 0, none⟩ = some (.string s) := by
  unfold Rd at h; simp [World.cell?, h]
theorem Rd.err {w : World} {b : Nat} {s : ByteArray} {e : Int} (h : Rd w b s e) : w.cell? ⟨b, 1, none⟩ = some (.int .i64 e) := by
  unfold Rd at h; simp [World.cell?, h]
theorem Rd.free {w : World} {b : Nat} {s : ByteArray} {e : Int} (h : Rd w b s e) (i : Nat) : w.frozen? ⟨b, i, none⟩ = false := by
  unfold Rd at h; simp [World.frozen?, h]

/-- isWidth: from 1 to 7. -/
theorem isWidth_any (n : Int) (w : World) : Calls Tryz.prog 68 #[.int .i64 n] w fun e w' => e = .returned (.bool (decide (1 ≤ n ∧ n ≤ 7))) ∧ w = w' := by
  by_cases h1 : 1 ≤ n <;> by_cases h2 : n ≤ 7
  all_goals
    go_enter Tryz.func68, Tryz.ntmps68
    go_wp2
    go_ret
    exact ⟨by simp [h1, h2], rfl⟩

theorem err_any (b : Nat) (s : ByteArray) (x : Int) (w : World) (h : Rd w b s x) : Calls Tryz.prog 73 #[.pointer (some ⟨b, 0, none⟩)] w fun e w' => e = .returned (.int .i64 x) ∧ w = w' := by
  have h1 := h.err
  clear h
  go_enter Tryz.func73, Tryz.ntmps73
  go_wp2
  go_ret
  exact ⟨rfl, rfl⟩

theorem left_any (b : Nat) (s : ByteArray) (x : Int) (w : World) (h : Rd w b s x) : Calls Tryz.prog 98 #[.pointer (some ⟨b, 0, none⟩)] w fun e w' => e = .returned (.int .i64 s.size) ∧ w = w' := by
  have h1 := h.rest
  clear h
  go_enter Tryz.func98, Tryz.ntmps98
  go_wp2
  go_ret
  exact ⟨rfl, rfl⟩


theorem Rd.lt {w : World} {b : Nat} {s : ByteArray} {e : Int} (h : Rd w b s e) : b < w.heap.size := lt_of_block h
theorem Rd.drewN {w : World} {b : Nat} {s : ByteArray} {e : Int} (h : Rd w b s e) (k : Nat) : Rd (w.drewN k) b s e := h
theorem Rd.kept {w w' : World} {b c : Nat} {s : ByteArray} {e : Int} (h : Rd w b s e) (hg : w.grownBy w' (some c)) (hne : b ≠ c) : Rd w' b s e := by
  unfold Rd; rw [hg.block b h.lt (by simpa using hne)]; exact h
theorem Rd.set0 {w : World} {b : Nat} {s : ByteArray} {e : Int} (h : Rd w b s e) (t : ByteArray) : Rd (w.setCell ⟨b, 0, none⟩ (.string t)) b t e := by
  have hlt := h.lt
  have h' : w.heap[b] = .cells #[.string s, .int .i64 e] 94 (0, 0) := by simpa [Rd, Array.getElem?_eq_getElem hlt] using h
  show (w.heap.modify b _)[b]? = _
  rw [Array.getElem?_eq_getElem (by simpa using hlt), Array.getElem_modify_self, h']
  rfl
theorem Rd.set1 {w : World} {b : Nat} {s : ByteArray} {e : Int} (h : Rd w b s e) (x : Int) : Rd (w.setCell ⟨b, 1, none⟩ (.int .i64 x)) b s x := by
  have hlt := h.lt
  have h' : w.heap[b] = .cells #[.string s, .int .i64 e] 94 (0, 0) := by simpa [Rd, Array.getElem?_eq_getElem hlt] using h
  show (w.heap.modify b _)[b]? = _
  rw [Array.getElem?_eq_getElem (by simpa using hlt), Array.getElem_modify_self, h']
  rfl
theorem grownBy_setCell (w : World) (b o : Nat) (v : Value) : w.grownBy (w.setCell ⟨b, o, none⟩ v) (some b) :=
  ⟨rfl, rfl, rfl, by simp [World.setCell], fun k _ hk => Below.heap_setCell _ _ _ _ (by simpa using hk)⟩
theorem grownBy_refl (w : World) (r : Option Nat) : w.grownBy w r := ⟨rfl, rfl, rfl, Nat.le_refl _, fun _ _ _ => rfl⟩
theorem grownBy_drewN (w : World) (k : Nat) (r : Option Nat) : w.grownBy (w.drewN k) r := ⟨rfl, rfl, rfl, Nat.le_refl _, fun _ _ _ => rfl⟩
theorem grownBy_trans {a b c : World} {r : Option Nat} (h : a.grownBy b r) (k : b.grownBy c r) : a.grownBy c r :=
  ⟨k.os.trans h.os, k.tape.trans h.tape, k.output.trans h.output, Nat.le_trans h.size k.size, fun i hi hr => (k.block i (Nat.lt_of_lt_of_le hi h.size) hr).trans (h.block i hi hr)⟩

/-- What is left behind a call: what the cut left, or, with an error, all. -/
def goS (s rest : ByteArray) (x : Int) : ByteArray := if x = 0 then rest else s
theorem goS_ok (s rest : ByteArray) : goS s rest 0 = rest := rfl
theorem goS_err (s rest : ByteArray) {x : Int} (h : x ≠ 0) : goS s rest x = s := if_neg h

theorem goOn_any (b : Nat) (s rest : ByteArray) (x : Int) (w : World) (h : Rd w b s 0) : Calls Tryz.prog 75 #[.pointer (some ⟨b, 0, none⟩), .string rest, .int .i64 x] w fun e w' => e = .returned (.tuple #[]) ∧ Rd w' b (goS s rest x) x ∧ w.grownBy w' (some b) := by
  have h1 := h.err
  have h2 := h.rest
  have h3 := h.free 0
  have h4 := h.free 1
  by_cases hx : x = 0
  · subst hx
    have r := h.set0 rest
    have H := Lib.hid h
    have R := Lib.hid r
    clear h r
    go_enter Tryz.func75, Tryz.ntmps75
    go_wp2
    go_end0
    exact ⟨rfl, R.out, grownBy_setCell _ _ _ _⟩
  · have r := h.set1 x
    rw [← goS_err s rest hx] at r
    have hb : (x == 0) = false := by simpa using hx
    have R := Lib.hid r
    have H := Lib.hid h
    have Hx := Lib.hid hx
    clear h r hx
    go_enter Tryz.func75, Tryz.ntmps75
    go_wp2
    exact bodyPost_ret (results_none Tryz.results75 _ _ _) rfl ⟨rfl, R.out, grownBy_setCell _ _ _ _⟩

theorem new_any (s : ByteArray) (w : World) : Calls Tryz.prog 55 #[.string s] w fun e w' => e = .returned (.pointer (some ⟨w.heap.size, 0, none⟩)) ∧ w' = w.alloc (.cells #[.string s, .int .i64 0] 94) := by
  go_enter Tryz.func55, Tryz.ntmps55
  go_wp2
  go_ret
  exact ⟨rfl, rfl⟩

/-- So many bytes off s: they, the rest, the error. -/
def cutS (s : ByteArray) (n : Int) : ByteArray × ByteArray × Int :=
  if n < 0 then (⟨#[]⟩, ⟨#[]⟩, 1) else if (s.size : Int) < n then (⟨#[]⟩, ⟨#[]⟩, 3) else (s.extract 0 n.toNat, s.extract n.toNat s.size, 0)

theorem cut_any (s : ByteArray) (n : Int) (w : World) {t rest : ByteArray} {x : Int} (hc : cutS s n = (t, rest, x)) : Calls Tryz.prog 95 #[.string s, .int .i64 n] w fun e w' => e = .returned (.tuple #[.string t, .string rest, .int .i64 x]) ∧ ∃ k, w' = w.drewN k := by
  unfold cutS at hc
  by_cases h : n < 0
  · rw [if_pos h] at hc
    simp only [Prod.mk.injEq] at hc
    obtain ⟨rfl, rfl, rfl⟩ := hc
    go_enter Tryz.func95, Tryz.ntmps95
    go_wp2
    go_ret3
    exact ⟨rfl, 0, rfl⟩
  · rw [if_neg h] at hc
    by_cases h2 : (s.size : Int) < n
    · rw [if_pos h2] at hc
      simp only [Prod.mk.injEq] at hc
      obtain ⟨rfl, rfl, rfl⟩ := hc
      go_enter Tryz.func95, Tryz.ntmps95
      go_wp2
      go_ret3
      exact ⟨rfl, 0, rfl⟩
    · rw [if_neg h2] at hc
      obtain ⟨m, rfl⟩ : ∃ m : Nat, n = m := ⟨n.toNat, by omega⟩
      rw [Int.toNat_natCast] at hc
      simp only [Prod.mk.injEq] at hc
      obtain ⟨rfl, rfl, rfl⟩ := hc
      have h3 : m ≤ s.size := by omega
      clear h h2
      go_enter Tryz.func95, Tryz.ntmps95
      go_wp2
      go_quiet (fail)
      go_wp2
      go_ret3
      exact ⟨rfl, _, rfl⟩

end Go.Proofs.YtelpkniockhjgaaGreat.Oc
