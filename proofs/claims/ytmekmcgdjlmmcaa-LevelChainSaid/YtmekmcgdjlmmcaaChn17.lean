/-
  Part 17: what the statement needs of these texts: LvC, LvD, LvE.
-/
import Derived.BigQuiet
import Derived.Deep.DeepCutAuto
import Derived.Deep.DeepMust
import Derived.Deep.OwnRows
import Derived.Deep.QuietTactic
import Derived.Deep.RegionHeld3
import Derived.Deep.RegionLaw
import Derived.Deep.RegionWith
import Derived.Defers
import Derived.Laws.BitsAllLaws
import Derived.Laws.PanicsMore
import Derived.Laws.Rows
import Derived.Laws.StructEq
import Derived.Lib.AppendStr
import Derived.Lib.Hide
import Derived.Lib.MinMax
import Derived.Lib.OthersKept
import Derived.Lib.Repeat
import Derived.Orders
import Derived.ProofKit
import Derived.Recover
import Derived.Shelf.Strings.Builder1
import Derived.Shelf.Strings.Prefix
import Derived.Shelf.Strings.Repeat
import Derived.StillTailTactics
import Derived.Test.YtmekmcgdjlmmcaaProg
import Derived.Test.YtmekmcgdjlmmcaaRows
import Derived.WalkKit
import Derived.WalkLawsBesides
import Derived.WalkSmall
import Derived.WalkSpells
import Derived.Test.YtmekmcgdjlmmcaaChn1
import Derived.Test.YtmekmcgdjlmmcaaChn2
import Derived.Test.YtmekmcgdjlmmcaaChn3
import Derived.Test.YtmekmcgdjlmmcaaChn4
import Derived.Test.YtmekmcgdjlmmcaaChn5
import Derived.Test.YtmekmcgdjlmmcaaChn6
import Derived.Test.YtmekmcgdjlmmcaaChn7
import Derived.Test.YtmekmcgdjlmmcaaChn8
import Derived.Test.YtmekmcgdjlmmcaaChn9
import Derived.Test.YtmekmcgdjlmmcaaChn10
import Derived.Test.YtmekmcgdjlmmcaaChn11
import Derived.Test.YtmekmcgdjlmmcaaChn12
import Derived.Test.YtmekmcgdjlmmcaaChn13
import Derived.Test.YtmekmcgdjlmmcaaChn14
import Derived.Test.YtmekmcgdjlmmcaaChn15
namespace Go.Proofs.Ytmekmcgdjlmmcaa
open Go.RowKit Go.Deep
set_option linter.unusedVariables false
set_option linter.unusedSimpArgs false

/-- What stays of a record, for a topic, born now. -/
def mvM (m : MsgM) (t : ByteArray) (now : Int) : MsgM := ⟨0, 0, 0, m.retry, 0, now, t, m.tag, m.body, m.keys⟩
/-- A call gives this record, its keys in a slice of its own. -/
def MsgTo (m : MsgM) (w : World) (e : Ending) (w' : World) : Prop := ∃ a l c, e = .returned (m.val (.slice a l c)) ∧ w'.ownsRow w.heap.size 9 1 (.slice a l c) m.keys.length (m.keys.map Value.string) ∧ Below w.heap.size w w'
theorem owns_cap {w : World} {base : Nat} {e : TypeId} {n k : Nat} {v : Value} {xs : List Value} (h : w.ownsRow base e n v k xs) : ∃ a c, v = .slice a k c ∧ k ≤ c := by
  rcases h.2 with ⟨rfl, rfl⟩ | ⟨g, cap, cur, rfl, _, _, hc, _⟩
  · exact ⟨_, _, rfl, Nat.le_refl _⟩
  · exact ⟨_, _, rfl, hc⟩
theorem owns_base {w : World} {base b : Nat} {e : TypeId} {n k : Nat} {v : Value} {xs : List Value} (h : w.ownsRow base e n v k xs) (hb : b ≤ base) : w.ownsRow b e n v k xs := by
  refine ⟨h.1, ?_⟩
  rcases h.2 with h2 | ⟨g, cap, cur, hv, hg, h3⟩
  · exact .inl h2
  · exact .inr ⟨g, cap, cur, hv, Nat.le_trans hb hg, h3⟩
theorem owns_keep {w w' : World} {base : Nat} {e : TypeId} {n k : Nat} {v : Value} {xs : List Value} (h : w.ownsRow base e n v k xs) (hk : ∀ (g : Nat) (cur : Array Value), w.heap[g]? = some (Obj.cells cur e (0, 0)) → w'.heap[g]? = some (Obj.cells cur e (0, 0))) : w'.ownsRow base e n v k xs := by
  refine ⟨h.1, ?_⟩
  rcases h.2 with h2 | ⟨g, cap, cur, hv, hg, hh, h3⟩
  · exact .inl h2
  · exact .inr ⟨g, cap, cur, hv, hg, hk g cur hh, h3⟩
theorem owns_on {w w' : World} {base : Nat} {e : TypeId} {n k : Nat} {v : Value} {xs : List Value} (h : w.ownsRow base e n v k xs) (hb : Below w.heap.size w w') : w'.ownsRow base e n v k xs :=
  owns_keep h fun g cur hg => (hb.block g (Array.getElem?_eq_some_iff.1 hg).1).trans hg
/-- A record's box is no row of texts. -/
theorem owns_box {w : World} {b base : Nat} {cs : Array Value} {k : Nat} {v : Value} {xs : List Value} (h : w.ownsRow base 9 1 v k xs) (hx : Box w b cs) (c0 c1 c2 c3 c4 c5 c6 c7 c8 c9 : Value) : (set10 w b c0 c1 c2 c3 c4 c5 c6 c7 c8 c9).ownsRow base 9 1 v k xs := by
  refine owns_keep h fun g cur hg => ?_
  have hne : b ≠ g := by
    rintro rfl
    unfold Box at hx
    rw [hg] at hx
    injection hx with hx
    injection hx with _ ht _
    exact absurd ht (by decide)
  have st : ∀ (W : World) (i : Nat) (v : Value), W.heap[g]? = some (Obj.cells cur 9 (0, 0)) → (W.setCell ⟨b, i, none⟩ v).heap[g]? = some (Obj.cells cur 9 (0, 0)) := fun W i v h => by
    rw [Below.heap_setCell _ _ _ _ (by simpa using hne.symm)]
    exact h
  exact st _ 9 _ (st _ 8 _ (st _ 7 _ (st _ 6 _ (st _ 5 _ (st _ 4 _ (st _ 3 _ (st _ 2 _ (st _ 1 _ (st _ 0 _ hg)))))))))
theorem copy_msg (m : MsgM) (vk : Value) (w : World) (hk : Strs w 0 vk m.keys) (hn : m.keys.length ≤ 10000) : Calls Try.prog 41 #[m.val vk] w (MsgTo m w) := by
  refine (copy_any m vk w hk hn).mono ?_
  rintro e w' ⟨v, rfl, ho, hb⟩
  obtain ⟨a, c, rfl, hc⟩ := owns_cap ho
  exact ⟨a, _, c, rfl, owns_base ho (Nat.le_add_right _ _), hb⟩
def MsgX (m : MsgM) (w : World) (e : Ending) (w' : World) : Prop := ∃ a l c, e = .returned (.agg #[.int .i64 m.kind, .int .i64 m.queue, .int .i64 m.due, .int .i64 m.retry, .int .i64 m.ref, .int .i64 m.born, .string m.topic, .string m.tag, .string m.body, .slice a l c]) ∧ w'.ownsRow w.heap.size 9 1 (.slice a l c) m.keys.length (m.keys.map Value.string) ∧ Below w.heap.size w w'
theorem MsgX.of {m : MsgM} {w : World} {e : Ending} {w' : World} (h : MsgTo m w e w') : MsgX m w e w' := h
def cellV (w : World) (p : Addr) : Value := (w.cell? p).getD undef
/-- A box of ten cells, whatever they hold. -/
def HasBox (w : World) (b : Nat) : Prop := ∃ cs, Box w b cs ∧ cs.size = 10
theorem HasBox.lt {w : World} {b : Nat} (h : HasBox w b) : b < w.heap.size := by obtain ⟨_, h, _⟩ := h; exact h.lt
theorem HasBox.free {w : World} {b : Nat} (h : HasBox w b) (i : Nat) : w.frozen? ⟨b, i, none⟩ = false := by obtain ⟨_, h, _⟩ := h; exact h.free i
theorem HasBox.cell {w : World} {b : Nat} (h : HasBox w b) (i : Nat) : w.cell? ⟨b, i, none⟩ = (#[cellV w ⟨b, 0, none⟩, cellV w ⟨b, 1, none⟩, cellV w ⟨b, 2, none⟩, cellV w ⟨b, 3, none⟩, cellV w ⟨b, 4, none⟩, cellV w ⟨b, 5, none⟩, cellV w ⟨b, 6, none⟩, cellV w ⟨b, 7, none⟩, cellV w ⟨b, 8, none⟩, cellV w ⟨b, 9, none⟩] : Array Value)[i]? := by
  obtain ⟨⟨l⟩, h, hs⟩ := h
  match l, hs with
  | [a0, a1, a2, a3, a4, a5, a6, a7, a8, a9], _ =>
    unfold cellV
    simp only [h.cell]
    rfl
theorem HasBox.below {w w' : World} {b : Nat} (h : HasBox w b) (hb : Below w.heap.size w w') : HasBox w' b := by
  have := h.lt
  obtain ⟨cs, h, hs⟩ := h
  exact ⟨cs, h.below hb this, hs⟩
theorem HasBox.fill {w : World} {b : Nat} (h : HasBox w b) (c0 c1 c2 c3 c4 c5 c6 c7 c8 c9 : Value) : Box (set10 w b c0 c1 c2 c3 c4 c5 c6 c7 c8 c9) b #[c0, c1, c2, c3, c4, c5, c6, c7, c8, c9] := by
  obtain ⟨⟨l⟩, h, hs⟩ := h
  match l, hs with
  | [a0, a1, a2, a3, a4, a5, a6, a7, a8, a9], _ =>
    have h1 := (((((((((h.set 0 c0).set 1 c1).set 2 c2).set 3 c3).set 4 c4).set 5 c5).set 6 c6).set 7 c7).set 8 c8).set 9 c9
    have e : ((((((((((⟨[a0, a1, a2, a3, a4, a5, a6, a7, a8, a9]⟩ : Array Value).setIfInBounds 0 c0).setIfInBounds 1 c1).setIfInBounds 2 c2).setIfInBounds 3 c3).setIfInBounds 4 c4).setIfInBounds 5 c5).setIfInBounds 6 c6).setIfInBounds 7 c7).setIfInBounds 8 c8).setIfInBounds 9 c9 = #[c0, c1, c2, c3, c4, c5, c6, c7, c8, c9] := by
      simp
    rw [e] at h1
    exact h1
/-- What holds ahead of and behind the store: a box that is read, a box that is written. -/
def Two (w : World) (p b : Nat) (cs : Array Value) : Prop := Box w p cs ∧ HasBox w b ∧ p ≠ b
theorem Two.below {w w' : World} {p b : Nat} {cs : Array Value} (h : Two w p b cs) (hb : Below w.heap.size w w') : Two w' p b cs := ⟨h.1.below hb h.1.lt, h.2.1.below hb, h.2.2⟩
theorem Two.fill {w : World} {p b : Nat} {cs : Array Value} (h : Two w p b cs) (c0 c1 c2 c3 c4 c5 c6 c7 c8 c9 : Value) : Two (set10 w b c0 c1 c2 c3 c4 c5 c6 c7 c8 c9) p b cs :=
  ⟨((((((((((h.1.setO h.2.2 0 c0).setO h.2.2 1 c1).setO h.2.2 2 c2).setO h.2.2 3 c3).setO h.2.2 4 c4).setO h.2.2 5 c5).setO h.2.2 6 c6).setO h.2.2 7 c7).setO h.2.2 8 c8).setO h.2.2 9 c9), ⟨_, h.2.1.fill c0 c1 c2 c3 c4 c5 c6 c7 c8 c9, rfl⟩, h.2.2⟩
/-- The box is filled. -/
def MvFin (B : Nat) (m : MsgM) (t : ByteArray) (now : Int) (w' : World) : Prop := ∃ a l c, Box w' (B + 1) #[.int .i64 0, .int .i64 0, .int .i64 0, .int .i64 m.retry, .int .i64 0, .int .i64 now, .string t, .string m.tag, .string m.body, .slice a l c] ∧ w'.ownsRow B 9 1 (.slice a l c) m.keys.length (m.keys.map Value.string)
/-- How the world goes on there. -/
def MvGr (B : Nat) (m : MsgM) (t : ByteArray) (now : Int) (w' w2 : World) : Prop := (∀ base v k xs, w'.ownsRow base 9 1 v k xs → w2.ownsRow base 9 1 v k xs) ∧ (MvFin B m t now w' → MvFin B m t now w2)
theorem MvGr.refl {B : Nat} {m : MsgM} {t : ByteArray} {now : Int} {w : World} : MvGr B m t now w w := ⟨fun _ _ _ _ h => h, fun h => h⟩
theorem MvGr.below {B : Nat} {m : MsgM} {t : ByteArray} {now : Int} {w w2 : World} (hb : Below w.heap.size w w2) : MvGr B m t now w w2 :=
  ⟨fun _ _ _ _ h => owns_on h hb, fun ⟨a, l, c, h1, h2⟩ => ⟨a, l, c, h1.below hb h1.lt, owns_on h2 hb⟩⟩
/-- The same, in the words that a walk uses. -/
def TwoC (w : World) (p b : Nat) (cs : Array Value) : Prop := (∀ i, w.cell? ⟨p, i, none⟩ = cs[i]?) ∧ (∀ i, w.cell? ⟨b, i, none⟩ = (#[cellV w ⟨b, 0, none⟩, cellV w ⟨b, 1, none⟩, cellV w ⟨b, 2, none⟩, cellV w ⟨b, 3, none⟩, cellV w ⟨b, 4, none⟩, cellV w ⟨b, 5, none⟩, cellV w ⟨b, 6, none⟩, cellV w ⟨b, 7, none⟩, cellV w ⟨b, 8, none⟩, cellV w ⟨b, 9, none⟩] : Array Value)[i]?) ∧ (∀ i, w.frozen? ⟨b, i, none⟩ = false) ∧ Two w p b cs
theorem Two.c {w : World} {p b : Nat} {cs : Array Value} (h : Two w p b cs) : TwoC w p b cs := ⟨h.1.cell, h.2.1.cell, h.2.1.free, h⟩
attribute [local go_sem] fr_opt in
set_option maxHeartbeats 4000000 in
set_option maxRecDepth 100000 in
theorem moved_any (m : MsgM) (vk : Value) (t : ByteArray) (now : Int) (w : World) (hk : Strs w 0 vk m.keys) (hn : m.keys.length ≤ 10000) :
    Calls Try.prog 29 #[m.val vk, .string t, .int .i64 now] w (MsgTo (mvM m t now) w) := by
  obtain ⟨W1, hW1⟩ : ∃ W, W = (w.alloc (.cells #[.int .i64 m.kind, .int .i64 m.queue, .int .i64 m.due, .int .i64 m.retry, .int .i64 m.ref, .int .i64 m.born, .string m.topic, .string m.tag, .string m.body, vk] 24)).alloc (.cells #[.int .i64 0, .int .i64 0, .int .i64 0, .int .i64 0, .int .i64 0, .int .i64 0, .string ⟨#[]⟩, .string ⟨#[]⟩, .string ⟨#[]⟩, .slice none 0 0] 24) := ⟨_, rfl⟩
  have hb1 : Below w.heap.size w W1 := by
    rw [hW1]
    exact ((Below.refl w.heap.size w).alloc (Nat.le_refl _) _).alloc (by simp only [World.size_alloc]; omega) _
  have hbm : Box W1 w.heap.size #[.int .i64 m.kind, .int .i64 m.queue, .int .i64 m.due, .int .i64 m.retry, .int .i64 m.ref, .int .i64 m.born, .string m.topic, .string m.tag, .string m.body, vk] := by rw [hW1]; exact (Box.new w _).alloc _
  have hbz : Box W1 (w.heap.size + 1) zc := by
    have := Box.new (w.alloc (.cells (m.cells vk) 24)) zc
    rw [World.size_alloc] at this
    rw [hW1]
    exact this
  have hz1 : W1.heap.size = w.heap.size + 2 := by rw [hW1, World.size_alloc, World.size_alloc]
  have HST := Lib.hid (hk.below hb1 (Nat.le_refl _))
  have HCP : Hid (∀ W, Below w.heap.size w W → Calls Try.prog 41 #[.agg #[.int .i64 m.kind, .int .i64 m.queue, .int .i64 m.due, .int .i64 m.retry, .int .i64 m.ref, .int .i64 m.born, .string m.topic, .string m.tag, .string m.body, vk]] W (MsgX m W)) := Lib.hid fun W h => (copy_msg m vk W (hk.below h (Nat.le_refl _)) hn).mono fun _ _ h => MsgX.of h
  have HB1 := Lib.hid hb1
  have HW1 := Lib.hid hW1
  have HBM := Lib.hid hbm
  have HBZ := Lib.hid hbz
  have HZ1 := Lib.hid hz1
  have HTW : Hid (Two W1.drew w.heap.size (w.heap.size + 1) #[.int .i64 m.kind, .int .i64 m.queue, .int .i64 m.due, .int .i64 m.retry, .int .i64 m.ref, .int .i64 m.born, .string m.topic, .string m.tag, .string m.body, vk]) := Lib.hid ⟨hbm, ⟨_, hbz, rfl⟩, by omega⟩
  have HLT : Hid (∀ W, Below w.heap.size w W → w.heap.size ≤ W.heap.size) := Lib.hid fun W h => h.size
  clear hb1 hk hW1 hbm hbz hz1
  unfold MsgM.val at *
  unfold MsgM.cells at *
  go_enter Try.func29, Try.ntmps29
  go_upto_region 1 with fail
  rw [← HW1.out]
  refine region_invS' (n := 19) rfl rfl (by kernel_rfl) (by kernel_rfl) (fun i v w' => match i with | 0 => v = .int .i64 now | 1 => v = .pointer (some ⟨w.heap.size, 3, none⟩) | 2 => v = .int .i64 m.retry | 3 => v = .string t | 4 => v = .pointer (some ⟨w.heap.size, 7, none⟩) | 5 => v = .string m.tag | 6 => v = .pointer (some ⟨w.heap.size, 8, none⟩) | 7 => v = .string m.body | 8 => v = .agg #[.int .i64 m.kind, .int .i64 m.queue, .int .i64 m.due, .int .i64 m.retry, .int .i64 m.ref, .int .i64 m.born, .string m.topic, .string m.tag, .string m.body, vk] | 9 => ∃ a l c, v = .agg #[.int .i64 m.kind, .int .i64 m.queue, .int .i64 m.due, .int .i64 m.retry, .int .i64 m.ref, .int .i64 m.born, .string m.topic, .string m.tag, .string m.body, .slice a l c] ∧ w'.ownsRow w.heap.size 9 1 (.slice a l c) m.keys.length (m.keys.map Value.string) | 10 => ∃ a l c, v = .slice a l c ∧ w'.ownsRow w.heap.size 9 1 (.slice a l c) m.keys.length (m.keys.map Value.string) | 11 => ∃ a l c, v = .agg #[.int .i64 0, .int .i64 0, .int .i64 0, .int .i64 m.retry, .int .i64 0, .int .i64 now, .string t, .string m.tag, .string m.body, .slice a l c] ∧ w'.ownsRow w.heap.size 9 1 (.slice a l c) m.keys.length (m.keys.map Value.string) | _ => MvFin w.heap.size m t now w')
    (fun w' => Below w.heap.size w w' ∧ Two w' w.heap.size (w.heap.size + 1) #[.int .i64 m.kind, .int .i64 m.queue, .int .i64 m.due, .int .i64 m.retry, .int .i64 m.ref, .int .i64 m.born, .string m.topic, .string m.tag, .string m.body, vk]) (MvGr w.heap.size m t now)
    (fun w' => MvGr.refl) (by
      intro i v w1 w2 hg hr
      match i, hr with
      | 0, hr => exact hr
      | 1, hr => exact hr
      | 2, hr => exact hr
      | 3, hr => exact hr
      | 4, hr => exact hr
      | 5, hr => exact hr
      | 6, hr => exact hr
      | 7, hr => exact hr
      | 8, hr => exact hr
      | 9, hr => obtain ⟨a, l, c, e, h1⟩ := hr; exact ⟨a, l, c, e, hg.1 _ _ _ _ h1⟩
      | 10, hr => obtain ⟨a, l, c, e, h1⟩ := hr; exact ⟨a, l, c, e, hg.1 _ _ _ _ h1⟩
      | 11, hr => obtain ⟨a, l, c, e, h1⟩ := hr; exact ⟨a, l, c, e, hg.1 _ _ _ _ h1⟩
      | k + 12, hr => exact hg.2 hr)
    ⟨HB1.out.drew, HTW.out⟩ (by
      intro i o v w1 ho hd hr
      match i, ho, hr with
      | 0, ho, hr => cases ho; cases hd
      | 1, ho, hr => cases ho; cases hd
      | 2, ho, hr => cases ho; cases hd
      | 3, ho, hr => cases ho; cases hd
      | 4, ho, hr => cases ho; cases hd
      | 5, ho, hr => cases ho; cases hd
      | 6, ho, hr => cases ho; cases hd
      | 7, ho, hr => cases ho; cases hd
      | 8, ho, hr => cases ho; cases hd
      | 9, ho, hr => cases ho; cases hd
      | 10, ho, hr => cases ho; cases hd
      | 11, ho, hr => cases ho; cases hd
      | k + 12, ho, hr => exact hr) ?_ ?_
  · simp only [AllAt]
    refine ⟨?_, ?_, ?_, ?_, ?_, ?_, ?_, ?_, ?_, ?_, ?_, ?_, ?_, trivial⟩
    · refine StepAt.plain rfl ?_
      intro f w' hG hfr hp Kx hK
      have g2 : f 2 = .int .i64 now := hfr 2 (by kernel_rfl)
      clear hfr hp
      go_simp
      exact hK _ _ rfl hG MvGr.refl
    · refine StepAt.plain rfl ?_
      intro f w' hG hfr hp Kx hK
      have g3 : f 3 = .pointer (some ⟨w.heap.size, 0, none⟩) := hfr 3 (by kernel_rfl)
      clear hfr hp
      go_simp
      exact hK _ _ rfl hG MvGr.refl
    · refine StepAt.plain rfl ?_
      intro f w' hG hfr hp Kx hK
      have g8 : f 8 = .pointer (some ⟨w.heap.size, 3, none⟩) := hp 1 _ 8 rfl rfl (by kernel_rfl)
      clear hfr hp
      have k0 := hG.2.1.cell
      go_simp
      exact hK _ _ rfl hG MvGr.refl
    · refine StepAt.plain rfl ?_
      intro f w' hG hfr hp Kx hK
      have g1 : f 1 = .string t := hfr 1 (by kernel_rfl)
      clear hfr hp
      go_simp
      exact hK _ _ rfl hG MvGr.refl
    · refine StepAt.plain rfl ?_
      intro f w' hG hfr hp Kx hK
      have g3 : f 3 = .pointer (some ⟨w.heap.size, 0, none⟩) := hfr 3 (by kernel_rfl)
      clear hfr hp
      go_simp
      exact hK _ _ rfl hG MvGr.refl
    · refine StepAt.plain rfl ?_
      intro f w' hG hfr hp Kx hK
      have g11 : f 11 = .pointer (some ⟨w.heap.size, 7, none⟩) := hp 4 _ 11 rfl rfl (by kernel_rfl)
      clear hfr hp
      have k0 := hG.2.1.cell
      go_simp
      exact hK _ _ rfl hG MvGr.refl
    · refine StepAt.plain rfl ?_
      intro f w' hG hfr hp Kx hK
      have g3 : f 3 = .pointer (some ⟨w.heap.size, 0, none⟩) := hfr 3 (by kernel_rfl)
      clear hfr hp
      go_simp
      exact hK _ _ rfl hG MvGr.refl
    · refine StepAt.plain rfl ?_
      intro f w' hG hfr hp Kx hK
      have g13 : f 13 = .pointer (some ⟨w.heap.size, 8, none⟩) := hp 6 _ 13 rfl rfl (by kernel_rfl)
      clear hfr hp
      have k0 := hG.2.1.cell
      go_simp
      exact hK _ _ rfl hG MvGr.refl
    · refine StepAt.plain rfl ?_
      intro f w' hG hfr hp Kx hK
      have g3 : f 3 = .pointer (some ⟨w.heap.size, 0, none⟩) := hfr 3 (by kernel_rfl)
      clear hfr hp
      have k0 := hG.2.1.cell
      go_simp
      exact hK _ _ rfl hG MvGr.refl
    · refine StepAt.plain rfl ?_
      intro f w' hG hfr hp Kx hK
      have g15 : f 15 = .agg #[.int .i64 m.kind, .int .i64 m.queue, .int .i64 m.due, .int .i64 m.retry, .int .i64 m.ref, .int .i64 m.born, .string m.topic, .string m.tag, .string m.body, vk] := hp 8 _ 15 rfl rfl (by kernel_rfl)
      clear hfr hp
      go_simp
      refine (HCP.out _ hG.1).mono ?_
      rintro e w2 ⟨ka, kl, kc, rfl, hvs, hb⟩
      refine hK _ _ ⟨ka, kl, kc, rfl, owns_base hvs hG.1.size⟩ ⟨hG.1.trans (hb.mono hG.1.size), hG.2.below hb⟩ (MvGr.below hb)
    · refine StepAt.plain rfl ?_
      intro f w' hG hfr hp Kx hK
      obtain ⟨a, l, c, g16, hst⟩ := hp 9 _ 16 rfl rfl (by kernel_rfl)
      clear hfr hp
      have hfd : ∀ (W : World) (v : Value), (Instr.field 24 (.agg #[.int .i64 m.kind, .int .i64 m.queue, .int .i64 m.due, .int .i64 m.retry, .int .i64 m.ref, .int .i64 m.born, .string m.topic, .string m.tag, .string m.body, v]) 9).run Try.prog W = .ok v W := fun _ _ => by kernel_rfl
      go_simp
      exact hK _ _ ⟨a, l, c, rfl, hst⟩ hG MvGr.refl
    · refine StepAt.plain rfl ?_
      intro f w' hG hfr hp Kx hK
      have g7 : f 7 = .int .i64 now := hp 0 _ 7 rfl rfl (by kernel_rfl)
      have g9 : f 9 = .int .i64 m.retry := hp 2 _ 9 rfl rfl (by kernel_rfl)
      have g10 : f 10 = .string t := hp 3 _ 10 rfl rfl (by kernel_rfl)
      have g12 : f 12 = .string m.tag := hp 5 _ 12 rfl rfl (by kernel_rfl)
      have g14 : f 14 = .string m.body := hp 7 _ 14 rfl rfl (by kernel_rfl)
      obtain ⟨a, l, c, g17, hst⟩ := hp 10 _ 17 rfl rfl (by kernel_rfl)
      clear hfr hp
      go_simp
      exact hK _ _ ⟨a, l, c, rfl, hst⟩ hG MvGr.refl
    · refine StepAt.plain rfl ?_
      intro f w' hG hfr hp Kx hK
      obtain ⟨a, l, c, g18, hst⟩ := hp 11 _ 18 rfl rfl (by kernel_rfl)
      have g6 : f 6 = .pointer (some ⟨w.heap.size + 1, 0, none⟩) := hfr 6 (by kernel_rfl)
      clear hfr hp
      have kz := hG.2.2.1.cell
      have kf := hG.2.2.1.free
      go_simp
      have hfin : MvFin w.heap.size m t now (set10 w' (w.heap.size + 1) (.int .i64 0) (.int .i64 0) (.int .i64 0) (.int .i64 m.retry) (.int .i64 0) (.int .i64 now) (.string t) (.string m.tag) (.string m.body) (.slice a l c)) := ⟨a, l, c, hG.2.2.1.fill _ _ _ _ _ _ _ _ _ _, owns_box hst hG.2.2.1.choose_spec.1 _ _ _ _ _ _ _ _ _ _⟩
      exact hK undef _ hfin ⟨below_set10 hG.1 (Nat.le_succ _) _ _ _ _ _ _ _ _ _ _, hG.2.fill _ _ _ _ _ _ _ _ _ _⟩ ⟨fun _ _ _ _ h => owns_box h hG.2.2.1.choose_spec.1 _ _ _ _ _ _ _ _ _ _, fun _ => hfin⟩
  · intro f w' hG hfr hR
    obtain ⟨a, l, c, hbx, hst⟩ := hR 12 _ rfl
    have g6 : f 6 = .pointer (some ⟨w.heap.size + 1, 0, none⟩) := hfr 6 (by kernel_rfl)
    have hpm := hbx.cell
    have HBL := Lib.hid hG.1
    have HST2 := Lib.hid hst
    clear hfr hR hG hst hbx
    go_wp2_with fail
    refine bodyPost_ret (v := (mvM m t now).val (.slice a l c)) ?_ rfl ⟨a, l, c, rfl, HST2.out, HBL.out⟩
    simp [results, Try.results29, go_sem, g6, hpm, MsgM.val, MsgM.cells, mvM]
end Go.Proofs.Ytmekmcgdjlmmcaa

namespace Go.Proofs.Ytmekmcgdjlmmcaa
open Go.RowKit Go.Deep
set_option linter.unusedVariables false
set_option linter.unusedSimpArgs false

theorem delayN_le (n : Int) : 0 ≤ delayN n ∧ delayN n ≤ 16 := by
  unfold delayN
  repeat' split
  all_goals omega
/-- What comes again of a record of a number; what stands in the dead topic. -/
def reM (m : MsgM) (id : Int) (t : ByteArray) (now : Int) : MsgM := ⟨2, 0, now + delayN (m.retry + 1), m.retry + 1, id, now, t, m.tag, m.body, m.keys⟩
def upM (m : MsgM) (t : ByteArray) (now : Int) : MsgM := ⟨1, 0, 0, m.retry, 0, now, t, m.tag, m.body, m.keys⟩
/-- What moved gives, its record written out. -/
def MvX (m : MsgM) (t : ByteArray) (now : Int) (w : World) (e : Ending) (w' : World) : Prop := ∃ a l c, e = .returned (.agg #[.int .i64 0, .int .i64 0, .int .i64 0, .int .i64 m.retry, .int .i64 0, .int .i64 now, .string t, .string m.tag, .string m.body, .slice a l c]) ∧ w'.ownsRow w.heap.size 9 1 (.slice a l c) m.keys.length (m.keys.map Value.string) ∧ Below w.heap.size w w'
/-- A box is filled so, with keys of its own. -/
def ReFin (B : Nat) (m : MsgM) (t : ByteArray) (now : Int) (b : Nat) (w' : World) : Prop := ∃ a l c, Box w' b #[.int .i64 0, .int .i64 0, .int .i64 0, .int .i64 m.retry, .int .i64 0, .int .i64 now, .string t, .string m.tag, .string m.body, .slice a l c] ∧ w'.ownsRow B 9 1 (.slice a l c) m.keys.length (m.keys.map Value.string)
def ReGr (B : Nat) (m : MsgM) (t : ByteArray) (now : Int) (w' w2 : World) : Prop := (∀ base v k xs, w'.ownsRow base 9 1 v k xs → w2.ownsRow base 9 1 v k xs) ∧ (∀ b, HasBox w' b → HasBox w2 b) ∧ (∀ b, ReFin B m t now b w' → ReFin B m t now b w2)
theorem ReGr.refl {B : Nat} {m : MsgM} {t : ByteArray} {now : Int} {w : World} : ReGr B m t now w w := ⟨fun _ _ _ _ h => h, fun _ h => h, fun _ h => h⟩
theorem ReGr.below {B : Nat} {m : MsgM} {t : ByteArray} {now : Int} {w w2 : World} (hb : Below w.heap.size w w2) : ReGr B m t now w w2 :=
  ⟨fun _ _ _ _ h => owns_on h hb, fun _ h => h.below hb, fun _ ⟨a, l, c, h1, h2⟩ => ⟨a, l, c, h1.below hb h1.lt, owns_on h2 hb⟩⟩
theorem Box.off10 {w : World} {p b : Nat} {cs : Array Value} (h : Box w p cs) (hne : p ≠ b) (c0 c1 c2 c3 c4 c5 c6 c7 c8 c9 : Value) : Box (set10 w b c0 c1 c2 c3 c4 c5 c6 c7 c8 c9) p cs :=
  (((((((((h.setO hne 0 c0).setO hne 1 c1).setO hne 2 c2).setO hne 3 c3).setO hne 4 c4).setO hne 5 c5).setO hne 6 c6).setO hne 7 c7).setO hne 8 c8).setO hne 9 c9
theorem HasBox.off10 {w : World} {p b : Nat} (h : HasBox w p) (hb : HasBox w b) (c0 c1 c2 c3 c4 c5 c6 c7 c8 c9 : Value) : HasBox (set10 w b c0 c1 c2 c3 c4 c5 c6 c7 c8 c9) p := by
  by_cases e : p = b
  · rw [e]; exact ⟨_, hb.fill _ _ _ _ _ _ _ _ _ _, rfl⟩
  · obtain ⟨cs, h1, h2⟩ := h
    exact ⟨cs, h1.off10 e _ _ _ _ _ _ _ _ _ _, h2⟩
/-- The keys' own row stays where a record's box is written. -/
theorem owns_set1 {w : World} {b base : Nat} {cs : Array Value} {k : Nat} {v : Value} {xs : List Value} (h : w.ownsRow base 9 1 v k xs) (hx : Box w b cs) (i : Nat) (u : Value) : (w.setCell ⟨b, i, none⟩ u).ownsRow base 9 1 v k xs := by
  refine owns_keep h fun g cur hg => ?_
  have hne : b ≠ g := by
    rintro rfl
    unfold Box at hx
    rw [hg] at hx
    injection hx with hx
    injection hx with _ ht _
    exact absurd ht (by decide)
  rw [Below.heap_setCell _ _ _ _ (by simpa using hne.symm)]
  exact hg
attribute [local go_sem] fr_opt in
set_option maxHeartbeats 4000000 in
set_option maxRecDepth 100000 in
theorem retried_any (m : MsgM) (vk : Value) (id : Int) (s t : ByteArray) (now : Int) (w : World) (hk : Strs w 0 vk m.keys) (hn : m.keys.length ≤ 10000) (hs : s.size ≤ maxLen) (hg : groupB s = true) (ht : retryH ++ s = t) (hr0 : 0 ≤ m.retry) (hr4 : m.retry < 4) (hnow0 : 0 ≤ now) (hnow : now ≤ 1099511627776) :
    Calls Try.prog 20 #[m.val vk, .int .i64 id, .string s, .int .i64 now] w (MsgTo (reM m id t now) w) := by
  obtain ⟨W1, hW1⟩ : ∃ W, W = (w.alloc (.cells #[.int .i64 m.kind, .int .i64 m.queue, .int .i64 m.due, .int .i64 m.retry, .int .i64 m.ref, .int .i64 m.born, .string m.topic, .string m.tag, .string m.body, vk] 24)).alloc (.cells #[.int .i64 0, .int .i64 0, .int .i64 0, .int .i64 0, .int .i64 0, .int .i64 0, .string ⟨#[]⟩, .string ⟨#[]⟩, .string ⟨#[]⟩, .slice none 0 0] 24) := ⟨_, rfl⟩
  have hb1 : Below w.heap.size w W1 := by
    rw [hW1]
    exact ((Below.refl w.heap.size w).alloc (Nat.le_refl _) _).alloc (by simp only [World.size_alloc]; omega) _
  have hbm : Box W1 w.heap.size #[.int .i64 m.kind, .int .i64 m.queue, .int .i64 m.due, .int .i64 m.retry, .int .i64 m.ref, .int .i64 m.born, .string m.topic, .string m.tag, .string m.body, vk] := by rw [hW1]; exact (Box.new w _).alloc _
  have hbz : Box W1 (w.heap.size + 1) zc := by
    have := Box.new (w.alloc (.cells (m.cells vk) 24)) zc
    rw [World.size_alloc] at this
    rw [hW1]
    exact this
  have HMV : Hid (∀ W, Below w.heap.size w W → Calls Try.prog 29 #[.agg #[.int .i64 m.kind, .int .i64 m.queue, .int .i64 m.due, .int .i64 m.retry, .int .i64 m.ref, .int .i64 m.born, .string m.topic, .string m.tag, .string m.body, vk], .string t, .int .i64 now] W (MvX m t now W)) := Lib.hid fun W h => (moved_any m vk t now W (hk.below h (Nat.le_refl _)) hn).mono fun _ _ h => h
  have HRT : Hid (∀ W, Calls Try.prog 30 #[.string s] W fun e w' => e = .returned (.string t) ∧ Below W.heap.size W w') := Lib.hid fun W => retry_any s t true W hs hg ht
  have HB1 := Lib.hid hb1
  have HW1 := Lib.hid hW1
  have HBM := Lib.hid hbm
  have HBZ := Lib.hid hbz
  clear hb1 hk hW1 hbm hbz
  unfold MsgM.val at *
  unfold MsgM.cells at *
  go_enter Try.func20, Try.ntmps20
  go_upto_region 1 with fail
  rw [← HW1.out]
  refine region_invF' (n := 29) rfl rfl (by kernel_rfl) (by kernel_rfl) (fun i v u w' => match i with | 0 => v = .agg #[.int .i64 m.kind, .int .i64 m.queue, .int .i64 m.due, .int .i64 m.retry, .int .i64 m.ref, .int .i64 m.born, .string m.topic, .string m.tag, .string m.body, vk] | 1 => v = .string s | 2 => v = .string t | 3 => v = .int .i64 now | 4 => ∃ a l c, v = .agg #[.int .i64 0, .int .i64 0, .int .i64 0, .int .i64 m.retry, .int .i64 0, .int .i64 now, .string t, .string m.tag, .string m.body, .slice a l c] ∧ w'.ownsRow w.heap.size 9 1 (.slice a l c) m.keys.length (m.keys.map Value.string) | 5 => ∃ b, v = .pointer (some ⟨b, 0, none⟩) ∧ HasBox w' b ∧ w.heap.size + 2 ≤ b | _ => ∃ b, u = .pointer (some ⟨b, 0, none⟩) ∧ ReFin w.heap.size m t now b w' ∧ w.heap.size + 2 ≤ b) (fun i => if i = 6 then 9 else 0) (by kernel_rfl)
    (fun w' => Below w.heap.size w w' ∧ Box w' w.heap.size #[.int .i64 m.kind, .int .i64 m.queue, .int .i64 m.due, .int .i64 m.retry, .int .i64 m.ref, .int .i64 m.born, .string m.topic, .string m.tag, .string m.body, vk] ∧ Box w' (w.heap.size + 1) zc) (ReGr w.heap.size m t now)
    (fun w' => ReGr.refl) (by
      intro i v u w1 w2 hg hr
      match i, hr with
      | 0, hr => exact hr
      | 1, hr => exact hr
      | 2, hr => exact hr
      | 3, hr => exact hr
      | 4, hr => obtain ⟨a, l, c, e, h1⟩ := hr; exact ⟨a, l, c, e, hg.1 _ _ _ _ h1⟩
      | 5, hr => obtain ⟨b, e, h1, h2⟩ := hr; exact ⟨b, e, hg.2.1 _ h1, h2⟩
      | k + 6, hr => obtain ⟨b, e, h1, h2⟩ := hr; exact ⟨b, e, hg.2.2 _ h1, h2⟩)
    ⟨HB1.out.drew, HBM.out, HBZ.out⟩ (by
      intro i o v u w1 ho hd hr
      match i, ho, hr with
      | 0, ho, hr => cases ho; cases hd
      | 1, ho, hr => cases ho; cases hd
      | 2, ho, hr => cases ho; cases hd
      | 3, ho, hr => cases ho; cases hd
      | 4, ho, hr => cases ho; cases hd
      | 5, ho, hr => cases ho; cases hd
      | k + 6, ho, hr => exact hr) ?_ ?_
  · simp only [AllAt]
    refine ⟨?_, ?_, ?_, ?_, ?_, ?_, ?_, trivial⟩
    · refine StepF.plain rfl ?_
      intro f w' hG hfr hp Kx hK
      have g4 : f 4 = .pointer (some ⟨w.heap.size, 0, none⟩) := hfr 4 (by kernel_rfl)
      clear hfr hp
      have k0 := hG.2.1.cell
      go_simp
      exact hK _ _ rfl hG ReGr.refl
    · refine StepF.plain rfl ?_
      intro f w' hG hfr hp Kx hK
      have g2 : f 2 = .string s := hfr 2 (by kernel_rfl)
      clear hfr hp
      go_simp
      exact hK _ _ rfl hG ReGr.refl
    · refine StepF.plain rfl ?_
      intro f w' hG hfr hp Kx hK
      have g11 : f 11 = .string s := hp 1 _ 11 rfl rfl (by kernel_rfl)
      clear hfr hp
      go_simp
      refine (HRT.out _).mono ?_
      rintro e w2 ⟨rfl, hb⟩
      exact hK _ _ rfl ⟨hG.1.trans (hb.mono hG.1.size), hG.2.1.below hb hG.2.1.lt, hG.2.2.below hb hG.2.2.lt⟩ (ReGr.below hb)
    · refine StepF.plain rfl ?_
      intro f w' hG hfr hp Kx hK
      have g3 : f 3 = .int .i64 now := hfr 3 (by kernel_rfl)
      clear hfr hp
      go_simp
      exact hK _ _ rfl hG ReGr.refl
    · refine StepF.plain rfl ?_
      intro f w' hG hfr hp Kx hK
      have g10 : f 10 = .agg #[.int .i64 m.kind, .int .i64 m.queue, .int .i64 m.due, .int .i64 m.retry, .int .i64 m.ref, .int .i64 m.born, .string m.topic, .string m.tag, .string m.body, vk] := hp 0 _ 10 rfl rfl (by kernel_rfl)
      have g12 : f 12 = .string t := hp 2 _ 12 rfl rfl (by kernel_rfl)
      have g13 : f 13 = .int .i64 now := hp 3 _ 13 rfl rfl (by kernel_rfl)
      clear hfr hp
      go_simp
      refine (HMV.out _ hG.1).mono ?_
      rintro e w2 ⟨ka, kl, kc, rfl, hvs, hb⟩
      exact hK _ _ ⟨ka, kl, kc, rfl, owns_base hvs hG.1.size⟩ ⟨hG.1.trans (hb.mono hG.1.size), hG.2.1.below hb hG.2.1.lt, hG.2.2.below hb hG.2.2.lt⟩ (ReGr.below hb)
    · refine StepF.plain rfl ?_
      intro f w' hG hfr hp Kx hK
      clear hfr hp
      have hlt := hG.2.2.lt
      go_simp
      have hb : Below w'.heap.size w' (w'.alloc (.cells zc 24)) := (Below.refl _ _).alloc (Nat.le_refl _) _
      exact hK _ _ ⟨w'.heap.size, rfl, ⟨_, Box.new w' zc, rfl⟩, by omega⟩ ⟨hG.1.trans (hb.mono hG.1.size), hG.2.1.below hb hG.2.1.lt, hG.2.2.below hb hG.2.2.lt⟩ (ReGr.below hb)
    · refine StepF.plain rfl ?_
      intro f w' hG hfr hp Kx hK
      obtain ⟨b, g9, hbx, hbl⟩ := hp 5 _ 9 rfl rfl (by kernel_rfl)
      obtain ⟨a, l, c, g14, hst⟩ := hp 4 _ 14 rfl rfl (by kernel_rfl)
      clear hfr hp
      have kz := hbx.cell
      have kf := hbx.free
      go_simp
      have hfin : ReFin w.heap.size m t now b (set10 w' b (.int .i64 0) (.int .i64 0) (.int .i64 0) (.int .i64 m.retry) (.int .i64 0) (.int .i64 now) (.string t) (.string m.tag) (.string m.body) (.slice a l c)) := ⟨a, l, c, hbx.fill _ _ _ _ _ _ _ _ _ _, owns_box hst hbx.choose_spec.1 _ _ _ _ _ _ _ _ _ _⟩
      refine hK undef _ ⟨b, g9, hfin, hbl⟩ ⟨below_set10 hG.1 (by omega) _ _ _ _ _ _ _ _ _ _, hG.2.1.off10 (by omega) _ _ _ _ _ _ _ _ _ _, hG.2.2.off10 (by omega) _ _ _ _ _ _ _ _ _ _⟩ ⟨fun _ _ _ _ h => owns_box h hbx.choose_spec.1 _ _ _ _ _ _ _ _ _ _, fun _ h => h.off10 hbx _ _ _ _ _ _ _ _ _ _, fun b2 h => ?_⟩
      by_cases e : b2 = b
      · rw [e]; exact hfin
      · obtain ⟨a2, l2, c2, q1, q2⟩ := h
        exact ⟨a2, l2, c2, q1.off10 e _ _ _ _ _ _ _ _ _ _, owns_box q2 hbx.choose_spec.1 _ _ _ _ _ _ _ _ _ _⟩
  · intro f w' hG hfr hR
    obtain ⟨b, g9, ⟨a, l, c, hbx, hst⟩, hbl⟩ := hR 6 _ rfl
    replace g9 : f 9 = .pointer (some ⟨b, 0, none⟩) := g9
    have p1 : f 1 = .int .i64 id := hfr 1 (by kernel_rfl)
    have p3 : f 3 = .int .i64 now := hfr 3 (by kernel_rfl)
    have p8 : f 8 = .pointer (some ⟨w.heap.size + 1, 0, none⟩) := hfr 8 (by kernel_rfl)
    rw [show Fr 29 f = ⟨#[f 0, f 1, f 2, f 3, f 4, f 5, f 6, f 7, f 8, f 9, f 10, f 11, f 12, f 13, f 14, f 15, f 16, f 17, f 18, f 19, f 20, f 21, f 22, f 23, f 24, f 25, f 26, f 27, f 28], []⟩ from rfl]
    obtain ⟨d, hd⟩ : ∃ d, delayN (m.retry + 1) = d := ⟨_, rfl⟩
    have hd0 : 0 ≤ d ∧ d ≤ 16 := hd ▸ delayN_le _
    obtain ⟨hd0, hd1⟩ := hd0
    have HD := Lib.hid hd
    have HBX := Lib.hid hbx
    have HST2 := Lib.hid hst
    have HBL := Lib.hid hG.1
    have HZ2 := Lib.hid hG.2.2
    have HLE := Lib.hid hbl
    have kx := hbx.cell
    have kf := hbx.free
    rw [p1, p3, p8, g9]
    clear hfr hR hG hst hbx hd hbl
    go_wp2_with fail
    obtain ⟨W4, hW4⟩ : ∃ W, W = (w'.setCell ⟨b, 0, none⟩ (.int .i64 2)).setCell ⟨b, 3, none⟩ (.int .i64 (m.retry + 1)) := ⟨_, rfl⟩
    rw [← hW4]
    refine (delay_any (m.retry + 1) d _ HD.out).mono ?_
    rintro e w5 ⟨rfl, rfl⟩
    have hb4 : Box W4 b #[.int .i64 2, .int .i64 0, .int .i64 0, .int .i64 (m.retry + 1), .int .i64 0, .int .i64 now, .string t, .string m.tag, .string m.body, .slice a l c] := by rw [hW4]; exact (HBX.out.set 0 _).set 3 _
    have HB4 := Lib.hid hb4
    clear kx kf
    have kx := hb4.cell
    have kf := hb4.free
    have HW4 := Lib.hid hW4
    clear hb4 hW4
    go_upto_region 6 with fail
    obtain ⟨W5, hW5⟩ : ∃ W, W = (W4.setCell ⟨b, 2, none⟩ (.int .i64 (now + d))).setCell ⟨b, 4, none⟩ (.int .i64 id) := ⟨_, rfl⟩
    rw [← hW5]
    have hb5 : Box W5 b #[.int .i64 2, .int .i64 0, .int .i64 (now + d), .int .i64 (m.retry + 1), .int .i64 id, .int .i64 now, .string t, .string m.tag, .string m.body, .slice a l c] := by rw [hW5]; exact (HB4.out.set 2 _).set 4 _
    have hne : w.heap.size + 1 ≠ b := by have := HLE.out; omega
    have hz5 : Box W5 (w.heap.size + 1) zc := by rw [hW5, HW4.out]; exact (((HZ2.out.setO hne 0 _).setO hne 3 _).setO hne 2 _).setO hne 4 _
    have hs5 : W5.ownsRow w.heap.size 9 1 (.slice a l c) m.keys.length (m.keys.map Value.string) := by rw [hW5, HW4.out]; exact owns_set1 (owns_set1 (owns_set1 (owns_set1 HST2.out HBX.out 0 _) (HBX.out.set 0 _) 3 _) ((HBX.out.set 0 _).set 3 _) 2 _) (((HBX.out.set 0 _).set 3 _).set 2 _) 4 _
    have hl5 : Below w.heap.size w W5 := by rw [hW5, HW4.out]; exact (((HBL.out.setCell (by have := HLE.out; show w.heap.size ≤ b; omega) _).setCell (by have := HLE.out; show w.heap.size ≤ b; omega) _).setCell (by have := HLE.out; show w.heap.size ≤ b; omega) _).setCell (by have := HLE.out; show w.heap.size ≤ b; omega) _
    clear kx kf hne
    have kx := hb5.cell
    have kz := hz5.cell
    have kf := hz5.free
    simp only [zc] at kz
    have HZ5 := Lib.hid hz5
    have HS5 := Lib.hid hs5
    have HL5 := Lib.hid hl5
    clear hb5 hz5 hs5 hl5 hW5
    go_wp2_with fail
    obtain ⟨W6, hW6⟩ : ∃ W, W = set10 W5 (w.heap.size + 1) (.int .i64 2) (.int .i64 0) (.int .i64 (now + d)) (.int .i64 (m.retry + 1)) (.int .i64 id) (.int .i64 now) (.string t) (.string m.tag) (.string m.body) (.slice a l c) := ⟨_, rfl⟩
    have hb6 : Box W6 (w.heap.size + 1) #[.int .i64 2, .int .i64 0, .int .i64 (now + d), .int .i64 (m.retry + 1), .int .i64 id, .int .i64 now, .string t, .string m.tag, .string m.body, .slice a l c] := by rw [hW6]; exact box_set10 HZ5.out _ _ _ _ _ _ _ _ _ _
    have hl6 : Below w.heap.size w W6 := by rw [hW6]; exact below_set10 HL5.out (Nat.le_succ _) _ _ _ _ _ _ _ _ _ _
    have hs6 : W6.ownsRow w.heap.size 9 1 (.slice a l c) m.keys.length (m.keys.map Value.string) := by rw [hW6]; exact owns_box HS5.out HZ5.out _ _ _ _ _ _ _ _ _ _
    unfold set10 at hW6
    rw [← hW6]
    have hpm := hb6.cell
    have hdd := HD.out
    refine bodyPost_ret (v := (reM m id t now).val (.slice a l c)) ?_ rfl ⟨a, l, c, rfl, hs6, hl6⟩
    simp [results, Try.results20, go_sem, hpm, MsgM.val, MsgM.cells, reM, hdd]
attribute [local go_sem] fr_opt in
set_option maxHeartbeats 4000000 in
set_option maxRecDepth 100000 in
theorem givenUp_any (m : MsgM) (vk : Value) (s t : ByteArray) (now : Int) (w : World) (hk : Strs w 0 vk m.keys) (hn : m.keys.length ≤ 10000) (hs : s.size ≤ maxLen) (hg : groupB s = true) (ht : deadH ++ s = t) :
    Calls Try.prog 21 #[m.val vk, .string s, .int .i64 now] w (MsgTo (upM m t now) w) := by
  obtain ⟨W1, hW1⟩ : ∃ W, W = (w.alloc (.cells #[.int .i64 m.kind, .int .i64 m.queue, .int .i64 m.due, .int .i64 m.retry, .int .i64 m.ref, .int .i64 m.born, .string m.topic, .string m.tag, .string m.body, vk] 24)).alloc (.cells #[.int .i64 0, .int .i64 0, .int .i64 0, .int .i64 0, .int .i64 0, .int .i64 0, .string ⟨#[]⟩, .string ⟨#[]⟩, .string ⟨#[]⟩, .slice none 0 0] 24) := ⟨_, rfl⟩
  have hb1 : Below w.heap.size w W1 := by
    rw [hW1]
    exact ((Below.refl w.heap.size w).alloc (Nat.le_refl _) _).alloc (by simp only [World.size_alloc]; omega) _
  have hbm : Box W1 w.heap.size #[.int .i64 m.kind, .int .i64 m.queue, .int .i64 m.due, .int .i64 m.retry, .int .i64 m.ref, .int .i64 m.born, .string m.topic, .string m.tag, .string m.body, vk] := by rw [hW1]; exact (Box.new w _).alloc _
  have hbz : Box W1 (w.heap.size + 1) zc := by
    have := Box.new (w.alloc (.cells (m.cells vk) 24)) zc
    rw [World.size_alloc] at this
    rw [hW1]
    exact this
  have HMV : Hid (∀ W, Below w.heap.size w W → Calls Try.prog 29 #[.agg #[.int .i64 m.kind, .int .i64 m.queue, .int .i64 m.due, .int .i64 m.retry, .int .i64 m.ref, .int .i64 m.born, .string m.topic, .string m.tag, .string m.body, vk], .string t, .int .i64 now] W (MvX m t now W)) := Lib.hid fun W h => (moved_any m vk t now W (hk.below h (Nat.le_refl _)) hn).mono fun _ _ h => h
  have HRT : Hid (∀ W, Calls Try.prog 31 #[.string s] W fun e w' => e = .returned (.string t) ∧ Below W.heap.size W w') := Lib.hid fun W => dead_any s t true W hs hg ht
  have HB1 := Lib.hid hb1
  have HW1 := Lib.hid hW1
  have HBM := Lib.hid hbm
  have HBZ := Lib.hid hbz
  clear hb1 hk hW1 hbm hbz
  unfold MsgM.val at *
  unfold MsgM.cells at *
  go_enter Try.func21, Try.ntmps21
  go_upto_region 1 with fail
  rw [← HW1.out]
  refine region_invF' (n := 15) rfl rfl (by kernel_rfl) (by kernel_rfl) (fun i v u w' => match i with | 0 => v = .agg #[.int .i64 m.kind, .int .i64 m.queue, .int .i64 m.due, .int .i64 m.retry, .int .i64 m.ref, .int .i64 m.born, .string m.topic, .string m.tag, .string m.body, vk] | 1 => v = .string s | 2 => v = .string t | 3 => v = .int .i64 now | 4 => ∃ a l c, v = .agg #[.int .i64 0, .int .i64 0, .int .i64 0, .int .i64 m.retry, .int .i64 0, .int .i64 now, .string t, .string m.tag, .string m.body, .slice a l c] ∧ w'.ownsRow w.heap.size 9 1 (.slice a l c) m.keys.length (m.keys.map Value.string) | 5 => ∃ b, v = .pointer (some ⟨b, 0, none⟩) ∧ HasBox w' b ∧ w.heap.size + 2 ≤ b | _ => ∃ b, u = .pointer (some ⟨b, 0, none⟩) ∧ ReFin w.heap.size m t now b w' ∧ w.heap.size + 2 ≤ b) (fun i => if i = 6 then 7 else 0) (by kernel_rfl)
    (fun w' => Below w.heap.size w w' ∧ Box w' w.heap.size #[.int .i64 m.kind, .int .i64 m.queue, .int .i64 m.due, .int .i64 m.retry, .int .i64 m.ref, .int .i64 m.born, .string m.topic, .string m.tag, .string m.body, vk] ∧ Box w' (w.heap.size + 1) zc) (ReGr w.heap.size m t now)
    (fun w' => ReGr.refl) (by
      intro i v u w1 w2 hg hr
      match i, hr with
      | 0, hr => exact hr
      | 1, hr => exact hr
      | 2, hr => exact hr
      | 3, hr => exact hr
      | 4, hr => obtain ⟨a, l, c, e, h1⟩ := hr; exact ⟨a, l, c, e, hg.1 _ _ _ _ h1⟩
      | 5, hr => obtain ⟨b, e, h1, h2⟩ := hr; exact ⟨b, e, hg.2.1 _ h1, h2⟩
      | k + 6, hr => obtain ⟨b, e, h1, h2⟩ := hr; exact ⟨b, e, hg.2.2 _ h1, h2⟩)
    ⟨HB1.out.drew, HBM.out, HBZ.out⟩ (by
      intro i o v u w1 ho hd hr
      match i, ho, hr with
      | 0, ho, hr => cases ho; cases hd
      | 1, ho, hr => cases ho; cases hd
      | 2, ho, hr => cases ho; cases hd
      | 3, ho, hr => cases ho; cases hd
      | 4, ho, hr => cases ho; cases hd
      | 5, ho, hr => cases ho; cases hd
      | k + 6, ho, hr => exact hr) ?_ ?_
  · simp only [AllAt]
    refine ⟨?_, ?_, ?_, ?_, ?_, ?_, ?_, trivial⟩
    · refine StepF.plain rfl ?_
      intro f w' hG hfr hp Kx hK
      have g3 : f 3 = .pointer (some ⟨w.heap.size, 0, none⟩) := hfr 3 (by kernel_rfl)
      clear hfr hp
      have k0 := hG.2.1.cell
      go_simp
      exact hK _ _ rfl hG ReGr.refl
    · refine StepF.plain rfl ?_
      intro f w' hG hfr hp Kx hK
      have g1 : f 1 = .string s := hfr 1 (by kernel_rfl)
      clear hfr hp
      go_simp
      exact hK _ _ rfl hG ReGr.refl
    · refine StepF.plain rfl ?_
      intro f w' hG hfr hp Kx hK
      have g9 : f 9 = .string s := hp 1 _ 9 rfl rfl (by kernel_rfl)
      clear hfr hp
      go_simp
      refine (HRT.out _).mono ?_
      rintro e w2 ⟨rfl, hb⟩
      exact hK _ _ rfl ⟨hG.1.trans (hb.mono hG.1.size), hG.2.1.below hb hG.2.1.lt, hG.2.2.below hb hG.2.2.lt⟩ (ReGr.below hb)
    · refine StepF.plain rfl ?_
      intro f w' hG hfr hp Kx hK
      have g2 : f 2 = .int .i64 now := hfr 2 (by kernel_rfl)
      clear hfr hp
      go_simp
      exact hK _ _ rfl hG ReGr.refl
    · refine StepF.plain rfl ?_
      intro f w' hG hfr hp Kx hK
      have g8 : f 8 = .agg #[.int .i64 m.kind, .int .i64 m.queue, .int .i64 m.due, .int .i64 m.retry, .int .i64 m.ref, .int .i64 m.born, .string m.topic, .string m.tag, .string m.body, vk] := hp 0 _ 8 rfl rfl (by kernel_rfl)
      have g10 : f 10 = .string t := hp 2 _ 10 rfl rfl (by kernel_rfl)
      have g11 : f 11 = .int .i64 now := hp 3 _ 11 rfl rfl (by kernel_rfl)
      clear hfr hp
      go_simp
      refine (HMV.out _ hG.1).mono ?_
      rintro e w2 ⟨ka, kl, kc, rfl, hvs, hb⟩
      exact hK _ _ ⟨ka, kl, kc, rfl, owns_base hvs hG.1.size⟩ ⟨hG.1.trans (hb.mono hG.1.size), hG.2.1.below hb hG.2.1.lt, hG.2.2.below hb hG.2.2.lt⟩ (ReGr.below hb)
    · refine StepF.plain rfl ?_
      intro f w' hG hfr hp Kx hK
      clear hfr hp
      have hlt := hG.2.2.lt
      go_simp
      have hb : Below w'.heap.size w' (w'.alloc (.cells zc 24)) := (Below.refl _ _).alloc (Nat.le_refl _) _
      exact hK _ _ ⟨w'.heap.size, rfl, ⟨_, Box.new w' zc, rfl⟩, by omega⟩ ⟨hG.1.trans (hb.mono hG.1.size), hG.2.1.below hb hG.2.1.lt, hG.2.2.below hb hG.2.2.lt⟩ (ReGr.below hb)
    · refine StepF.plain rfl ?_
      intro f w' hG hfr hp Kx hK
      obtain ⟨b, g7, hbx, hbl⟩ := hp 5 _ 7 rfl rfl (by kernel_rfl)
      obtain ⟨a, l, c, g12, hst⟩ := hp 4 _ 12 rfl rfl (by kernel_rfl)
      clear hfr hp
      have kz := hbx.cell
      have kf := hbx.free
      go_simp
      have hfin : ReFin w.heap.size m t now b (set10 w' b (.int .i64 0) (.int .i64 0) (.int .i64 0) (.int .i64 m.retry) (.int .i64 0) (.int .i64 now) (.string t) (.string m.tag) (.string m.body) (.slice a l c)) := ⟨a, l, c, hbx.fill _ _ _ _ _ _ _ _ _ _, owns_box hst hbx.choose_spec.1 _ _ _ _ _ _ _ _ _ _⟩
      refine hK undef _ ⟨b, g7, hfin, hbl⟩ ⟨below_set10 hG.1 (by omega) _ _ _ _ _ _ _ _ _ _, hG.2.1.off10 (by omega) _ _ _ _ _ _ _ _ _ _, hG.2.2.off10 (by omega) _ _ _ _ _ _ _ _ _ _⟩ ⟨fun _ _ _ _ h => owns_box h hbx.choose_spec.1 _ _ _ _ _ _ _ _ _ _, fun _ h => h.off10 hbx _ _ _ _ _ _ _ _ _ _, fun b2 h => ?_⟩
      by_cases e : b2 = b
      · rw [e]; exact hfin
      · obtain ⟨a2, l2, c2, q1, q2⟩ := h
        exact ⟨a2, l2, c2, q1.off10 e _ _ _ _ _ _ _ _ _ _, owns_box q2 hbx.choose_spec.1 _ _ _ _ _ _ _ _ _ _⟩
  · intro f w' hG hfr hR
    obtain ⟨b, g7, ⟨a, l, c, hbx, hst⟩, hbl⟩ := hR 6 _ rfl
    replace g7 : f 7 = .pointer (some ⟨b, 0, none⟩) := g7
    have p2 : f 2 = .int .i64 now := hfr 2 (by kernel_rfl)
    have p6 : f 6 = .pointer (some ⟨w.heap.size + 1, 0, none⟩) := hfr 6 (by kernel_rfl)
    rw [show Fr 15 f = ⟨#[f 0, f 1, f 2, f 3, f 4, f 5, f 6, f 7, f 8, f 9, f 10, f 11, f 12, f 13, f 14], []⟩ from rfl]
    have HBX := Lib.hid hbx
    have HST2 := Lib.hid hst
    have HBL := Lib.hid hG.1
    have HZ2 := Lib.hid hG.2.2
    have HLE := Lib.hid hbl
    have kx := hbx.cell
    have kf := hbx.free
    rw [p2, p6, g7]
    clear hfr hR hG hst hbx hbl
    go_upto_region 3 with fail
    obtain ⟨W5, hW5⟩ : ∃ W, W = w'.setCell ⟨b, 0, none⟩ (.int .i64 1) := ⟨_, rfl⟩
    rw [← hW5]
    have hb5 : Box W5 b #[.int .i64 1, .int .i64 0, .int .i64 0, .int .i64 m.retry, .int .i64 0, .int .i64 now, .string t, .string m.tag, .string m.body, .slice a l c] := by rw [hW5]; exact HBX.out.set 0 _
    have hne : w.heap.size + 1 ≠ b := by have := HLE.out; omega
    have hz5 : Box W5 (w.heap.size + 1) zc := by rw [hW5]; exact HZ2.out.setO hne 0 _
    have hs5 : W5.ownsRow w.heap.size 9 1 (.slice a l c) m.keys.length (m.keys.map Value.string) := by rw [hW5]; exact owns_set1 HST2.out HBX.out 0 _
    have hl5 : Below w.heap.size w W5 := by rw [hW5]; exact HBL.out.setCell (by have := HLE.out; show w.heap.size ≤ b; omega) _
    clear kx kf hne
    have kx := hb5.cell
    have kz := hz5.cell
    have kf := hz5.free
    simp only [zc] at kz
    have HZ5 := Lib.hid hz5
    have HS5 := Lib.hid hs5
    have HL5 := Lib.hid hl5
    clear hb5 hz5 hs5 hl5 hW5
    go_wp2_with fail
    obtain ⟨W6, hW6⟩ : ∃ W, W = set10 W5 (w.heap.size + 1) (.int .i64 1) (.int .i64 0) (.int .i64 0) (.int .i64 m.retry) (.int .i64 0) (.int .i64 now) (.string t) (.string m.tag) (.string m.body) (.slice a l c) := ⟨_, rfl⟩
    have hb6 : Box W6 (w.heap.size + 1) #[.int .i64 1, .int .i64 0, .int .i64 0, .int .i64 m.retry, .int .i64 0, .int .i64 now, .string t, .string m.tag, .string m.body, .slice a l c] := by rw [hW6]; exact box_set10 HZ5.out _ _ _ _ _ _ _ _ _ _
    have hl6 : Below w.heap.size w W6 := by rw [hW6]; exact below_set10 HL5.out (Nat.le_succ _) _ _ _ _ _ _ _ _ _ _
    have hs6 : W6.ownsRow w.heap.size 9 1 (.slice a l c) m.keys.length (m.keys.map Value.string) := by rw [hW6]; exact owns_box HS5.out HZ5.out _ _ _ _ _ _ _ _ _ _
    unfold set10 at hW6
    rw [← hW6]
    have hpm := hb6.cell
    refine bodyPost_ret (v := (upM m t now).val (.slice a l c)) ?_ rfl ⟨a, l, c, rfl, hs6, hl6⟩
    simp [results, Try.results21, go_sem, hpm, MsgM.val, MsgM.cells, upM]
end Go.Proofs.Ytmekmcgdjlmmcaa

namespace Go.Proofs.Ytmekmcgdjlmmcaa
open Go.RowKit Go.Deep
set_option linter.unusedVariables false
set_option linter.unusedSimpArgs false

/-- What Again answers. -/
def againM (m : MsgM) (id : Int) (s : ByteArray) (now : Int) : MsgM × Int :=
  if groupB s = false then (zeroM, 11)
  else if (mayB m && (smallB id && smallB now)) = false then (zeroM, 1)
  else if m.retry < 4 then (reM m id (retryH ++ s) now, 0)
  else (upM m (deadH ++ s) now, 0)
def AgainTo (x : MsgM × Int) (w : World) (e : Ending) (w' : World) : Prop := ∃ a l c, e = .returned (.tuple #[x.1.val (.slice a l c), .int .i64 x.2]) ∧ w'.ownsRow w.heap.size 9 1 (.slice a l c) x.1.keys.length (x.1.keys.map Value.string) ∧ Below w.heap.size w w'
def ReX (m : MsgM) (id : Int) (t : ByteArray) (now : Int) (w : World) (e : Ending) (w' : World) : Prop := ∃ a l c, e = .returned (.agg #[.int .i64 2, .int .i64 0, .int .i64 (now + delayN (m.retry + 1)), .int .i64 (m.retry + 1), .int .i64 id, .int .i64 now, .string t, .string m.tag, .string m.body, .slice a l c]) ∧ w'.ownsRow w.heap.size 9 1 (.slice a l c) m.keys.length (m.keys.map Value.string) ∧ Below w.heap.size w w'
def UpX (m : MsgM) (t : ByteArray) (now : Int) (w : World) (e : Ending) (w' : World) : Prop := ∃ a l c, e = .returned (.agg #[.int .i64 1, .int .i64 0, .int .i64 0, .int .i64 m.retry, .int .i64 0, .int .i64 now, .string t, .string m.tag, .string m.body, .slice a l c]) ∧ w'.ownsRow w.heap.size 9 1 (.slice a l c) m.keys.length (m.keys.map Value.string) ∧ Below w.heap.size w w'
set_option maxHeartbeats 4000000 in
set_option maxRecDepth 100000 in
theorem again_name (m : MsgM) (vk : Value) (id : Int) (s : ByteArray) (now : Int) (w : World) (hk : Strs w 0 vk m.keys) (hcap : CapOk vk) (hsd : Sound m) (hn : m.keys.length ≤ 10000) (hs : s.size ≤ maxLen) (hg : groupB s = false) :
    Calls Try.prog 8 #[m.val vk, .int .i64 id, .string s, .int .i64 now] w (AgainTo (zeroM, 11) w) := by
  obtain ⟨W1, hW1⟩ : ∃ W, W = (w.alloc (.cells #[.int .i64 m.kind, .int .i64 m.queue, .int .i64 m.due, .int .i64 m.retry, .int .i64 m.ref, .int .i64 m.born, .string m.topic, .string m.tag, .string m.body, vk] 24)).alloc (.cells #[.int .i64 0, .int .i64 0, .int .i64 0, .int .i64 0, .int .i64 0, .int .i64 0, .string ⟨#[]⟩, .string ⟨#[]⟩, .string ⟨#[]⟩, .slice none 0 0] 24) := ⟨_, rfl⟩
  have hb1 : Below w.heap.size w W1 := by
    rw [hW1]
    exact ((Below.refl w.heap.size w).alloc (Nat.le_refl _) _).alloc (by simp only [World.size_alloc]; omega) _
  have hbm : Box W1 w.heap.size #[.int .i64 m.kind, .int .i64 m.queue, .int .i64 m.due, .int .i64 m.retry, .int .i64 m.ref, .int .i64 m.born, .string m.topic, .string m.tag, .string m.body, vk] := by rw [hW1]; exact (Box.new w _).alloc _
  have hbz : Box W1 (w.heap.size + 1) zc := by
    have := Box.new (w.alloc (.cells (m.cells vk) 24)) zc
    rw [World.size_alloc] at this
    rw [hW1]
    exact this
  have HGR : Hid (Calls Try.prog 17 #[.string s] W1 fun e w' => e = .returned (.bool false) ∧ Below W1.heap.size W1 w') := Lib.hid (by have := group_any s W1 hs; rw [hg] at this; exact this)
  have HB1 := Lib.hid hb1
  have HW1 := Lib.hid hW1
  have HBM := Lib.hid hbm
  have HBZ := Lib.hid hbz
  have k0 := hbm.cell
  clear hb1 hk hW1 hbm hbz hcap hsd
  unfold MsgM.val at *
  unfold MsgM.cells at *
  go_enter Try.func8, Try.ntmps8
  go_wp2_with fail
  rw [← HW1.out]
  refine HGR.out.mono ?_
  rintro e w2 ⟨rfl, hb⟩
  have hbm2 := HBM.out.below hb HBM.out.lt
  have hbz2 := HBZ.out.below hb HBZ.out.lt
  have HB2 := Lib.hid (HB1.out.trans (hb.mono HB1.out.size))
  have HBM2 := Lib.hid hbm2
  have HBZ2 := Lib.hid hbz2
  clear k0
  have k0 := hbm2.cell
  clear hb hbm2 hbz2
  have kz := HBZ2.out.cell
  have kf := HBZ2.out.free
  simp only [zc] at kz
  clear k0
  go_wp2_with fail
  obtain ⟨W6, hW6⟩ : ∃ W, W = set10 w2 (w.heap.size + 1) (.int .i64 0) (.int .i64 0) (.int .i64 0) (.int .i64 0) (.int .i64 0) (.int .i64 0) (.string ⟨#[]⟩) (.string ⟨#[]⟩) (.string ⟨#[]⟩) (.slice none 0 0) := ⟨_, rfl⟩
  have hb6 := box_set10 HBZ2.out (.int .i64 0) (.int .i64 0) (.int .i64 0) (.int .i64 0) (.int .i64 0) (.int .i64 0) (.string ⟨#[]⟩) (.string ⟨#[]⟩) (.string ⟨#[]⟩) (.slice none 0 0)
  have hl6 : Below w.heap.size w W6 := by rw [hW6]; exact below_set10 HB2.out (Nat.le_succ _) _ _ _ _ _ _ _ _ _ _
  rw [← hW6] at hb6
  have hs6 : W6.ownsRow w.heap.size 9 1 (.slice none 0 0) 0 [] := ⟨rfl, .inl ⟨rfl, rfl⟩⟩
  unfold set10 at hW6
  rw [← hW6]
  have hpm := hb6.cell
  refine bodyPost_ret (v := .tuple #[(zeroM).val (.slice none 0 0), .int .i64 11]) ?_ rfl ⟨none, 0, 0, rfl, hs6, hl6⟩
  simp [results, Try.results8, go_sem, hpm, MsgM.val, MsgM.cells, zeroM, reM, upM]
set_option maxHeartbeats 4000000 in
set_option maxRecDepth 100000 in
theorem again_arg1 (m : MsgM) (vk : Value) (id : Int) (s : ByteArray) (now : Int) (w : World) (hk : Strs w 0 vk m.keys) (hcap : CapOk vk) (hsd : Sound m) (hn : m.keys.length ≤ 10000) (hs : s.size ≤ maxLen) (hg : groupB s = true) (hm : mayB m = false) :
    Calls Try.prog 8 #[m.val vk, .int .i64 id, .string s, .int .i64 now] w (AgainTo (zeroM, 1) w) := by
  obtain ⟨W1, hW1⟩ : ∃ W, W = (w.alloc (.cells #[.int .i64 m.kind, .int .i64 m.queue, .int .i64 m.due, .int .i64 m.retry, .int .i64 m.ref, .int .i64 m.born, .string m.topic, .string m.tag, .string m.body, vk] 24)).alloc (.cells #[.int .i64 0, .int .i64 0, .int .i64 0, .int .i64 0, .int .i64 0, .int .i64 0, .string ⟨#[]⟩, .string ⟨#[]⟩, .string ⟨#[]⟩, .slice none 0 0] 24) := ⟨_, rfl⟩
  have hb1 : Below w.heap.size w W1 := by
    rw [hW1]
    exact ((Below.refl w.heap.size w).alloc (Nat.le_refl _) _).alloc (by simp only [World.size_alloc]; omega) _
  have hbm : Box W1 w.heap.size #[.int .i64 m.kind, .int .i64 m.queue, .int .i64 m.due, .int .i64 m.retry, .int .i64 m.ref, .int .i64 m.born, .string m.topic, .string m.tag, .string m.body, vk] := by rw [hW1]; exact (Box.new w _).alloc _
  have hbz : Box W1 (w.heap.size + 1) zc := by
    have := Box.new (w.alloc (.cells (m.cells vk) 24)) zc
    rw [World.size_alloc] at this
    rw [hW1]
    exact this
  have HGR : Hid (Calls Try.prog 17 #[.string s] W1 fun e w' => e = .returned (.bool true) ∧ Below W1.heap.size W1 w') := Lib.hid (by have := group_any s W1 hs; rw [hg] at this; exact this)
  have HMF : Hid (∀ W, Below w.heap.size w W → Calls Try.prog 18 #[.agg #[.int .i64 m.kind, .int .i64 m.queue, .int .i64 m.due, .int .i64 m.retry, .int .i64 m.ref, .int .i64 m.born, .string m.topic, .string m.tag, .string m.body, vk]] W fun e w' => e = .returned (.bool false) ∧ Below W.heap.size W w') := Lib.hid fun W h => mayFail_any m vk false W (hk.below h (Nat.le_refl _)) hcap hsd hm
  have HB1 := Lib.hid hb1
  have HW1 := Lib.hid hW1
  have HBM := Lib.hid hbm
  have HBZ := Lib.hid hbz
  have k0 := hbm.cell
  clear hb1 hk hW1 hbm hbz hcap hsd
  unfold MsgM.val at *
  unfold MsgM.cells at *
  go_enter Try.func8, Try.ntmps8
  go_wp2_with fail
  rw [← HW1.out]
  refine HGR.out.mono ?_
  rintro e w2 ⟨rfl, hb⟩
  have hbm2 := HBM.out.below hb HBM.out.lt
  have hbz2 := HBZ.out.below hb HBZ.out.lt
  have HB2 := Lib.hid (HB1.out.trans (hb.mono HB1.out.size))
  have HBM2 := Lib.hid hbm2
  have HBZ2 := Lib.hid hbz2
  clear k0
  have k0 := hbm2.cell
  clear hb hbm2 hbz2
  go_wp2_with fail
  refine (HMF.out _ HB2.out).mono ?_
  rintro e w3 ⟨rfl, hb⟩
  have hbm3 := HBM2.out.below hb HBM2.out.lt
  have hbz3 := HBZ2.out.below hb HBZ2.out.lt
  have HB3 := Lib.hid (HB2.out.trans (hb.mono HB2.out.size))
  have HBM3 := Lib.hid hbm3
  have HBZ3 := Lib.hid hbz3
  clear k0
  have k0 := hbm3.cell
  clear hb hbm3 hbz3
  have kz := HBZ3.out.cell
  have kf := HBZ3.out.free
  simp only [zc] at kz
  clear k0
  go_wp2_with fail
  obtain ⟨W6, hW6⟩ : ∃ W, W = set10 w3 (w.heap.size + 1) (.int .i64 0) (.int .i64 0) (.int .i64 0) (.int .i64 0) (.int .i64 0) (.int .i64 0) (.string ⟨#[]⟩) (.string ⟨#[]⟩) (.string ⟨#[]⟩) (.slice none 0 0) := ⟨_, rfl⟩
  have hb6 := box_set10 HBZ3.out (.int .i64 0) (.int .i64 0) (.int .i64 0) (.int .i64 0) (.int .i64 0) (.int .i64 0) (.string ⟨#[]⟩) (.string ⟨#[]⟩) (.string ⟨#[]⟩) (.slice none 0 0)
  have hl6 : Below w.heap.size w W6 := by rw [hW6]; exact below_set10 HB3.out (Nat.le_succ _) _ _ _ _ _ _ _ _ _ _
  rw [← hW6] at hb6
  have hs6 : W6.ownsRow w.heap.size 9 1 (.slice none 0 0) 0 [] := ⟨rfl, .inl ⟨rfl, rfl⟩⟩
  unfold set10 at hW6
  rw [← hW6]
  have hpm := hb6.cell
  refine bodyPost_ret (v := .tuple #[(zeroM).val (.slice none 0 0), .int .i64 1]) ?_ rfl ⟨none, 0, 0, rfl, hs6, hl6⟩
  simp [results, Try.results8, go_sem, hpm, MsgM.val, MsgM.cells, zeroM, reM, upM]
set_option maxHeartbeats 4000000 in
set_option maxRecDepth 100000 in
theorem again_arg2 (m : MsgM) (vk : Value) (id : Int) (s : ByteArray) (now : Int) (w : World) (hk : Strs w 0 vk m.keys) (hcap : CapOk vk) (hsd : Sound m) (hn : m.keys.length ≤ 10000) (hs : s.size ≤ maxLen) (hg : groupB s = true) (hm : mayB m = true) (hsm : (smallB id && smallB now) = false) :
    Calls Try.prog 8 #[m.val vk, .int .i64 id, .string s, .int .i64 now] w (AgainTo (zeroM, 1) w) := by
  obtain ⟨W1, hW1⟩ : ∃ W, W = (w.alloc (.cells #[.int .i64 m.kind, .int .i64 m.queue, .int .i64 m.due, .int .i64 m.retry, .int .i64 m.ref, .int .i64 m.born, .string m.topic, .string m.tag, .string m.body, vk] 24)).alloc (.cells #[.int .i64 0, .int .i64 0, .int .i64 0, .int .i64 0, .int .i64 0, .int .i64 0, .string ⟨#[]⟩, .string ⟨#[]⟩, .string ⟨#[]⟩, .slice none 0 0] 24) := ⟨_, rfl⟩
  have hb1 : Below w.heap.size w W1 := by
    rw [hW1]
    exact ((Below.refl w.heap.size w).alloc (Nat.le_refl _) _).alloc (by simp only [World.size_alloc]; omega) _
  have hbm : Box W1 w.heap.size #[.int .i64 m.kind, .int .i64 m.queue, .int .i64 m.due, .int .i64 m.retry, .int .i64 m.ref, .int .i64 m.born, .string m.topic, .string m.tag, .string m.body, vk] := by rw [hW1]; exact (Box.new w _).alloc _
  have hbz : Box W1 (w.heap.size + 1) zc := by
    have := Box.new (w.alloc (.cells (m.cells vk) 24)) zc
    rw [World.size_alloc] at this
    rw [hW1]
    exact this
  have HGR : Hid (Calls Try.prog 17 #[.string s] W1 fun e w' => e = .returned (.bool true) ∧ Below W1.heap.size W1 w') := Lib.hid (by have := group_any s W1 hs; rw [hg] at this; exact this)
  have HMF : Hid (∀ W, Below w.heap.size w W → Calls Try.prog 18 #[.agg #[.int .i64 m.kind, .int .i64 m.queue, .int .i64 m.due, .int .i64 m.retry, .int .i64 m.ref, .int .i64 m.born, .string m.topic, .string m.tag, .string m.body, vk]] W fun e w' => e = .returned (.bool true) ∧ Below W.heap.size W w') := Lib.hid fun W h => mayFail_any m vk true W (hk.below h (Nat.le_refl _)) hcap hsd hm
  have HSM := Lib.hid hsm
  clear hsm
  have HB1 := Lib.hid hb1
  have HW1 := Lib.hid hW1
  have HBM := Lib.hid hbm
  have HBZ := Lib.hid hbz
  have k0 := hbm.cell
  clear hb1 hk hW1 hbm hbz hcap hsd
  unfold MsgM.val at *
  unfold MsgM.cells at *
  go_enter Try.func8, Try.ntmps8
  go_wp2_with fail
  rw [← HW1.out]
  refine HGR.out.mono ?_
  rintro e w2 ⟨rfl, hb⟩
  have hbm2 := HBM.out.below hb HBM.out.lt
  have hbz2 := HBZ.out.below hb HBZ.out.lt
  have HB2 := Lib.hid (HB1.out.trans (hb.mono HB1.out.size))
  have HBM2 := Lib.hid hbm2
  have HBZ2 := Lib.hid hbz2
  clear k0
  have k0 := hbm2.cell
  clear hb hbm2 hbz2
  go_wp2_with fail
  refine (HMF.out _ HB2.out).mono ?_
  rintro e w3 ⟨rfl, hb⟩
  have hbm3 := HBM2.out.below hb HBM2.out.lt
  have hbz3 := HBZ2.out.below hb HBZ2.out.lt
  have HB3 := Lib.hid (HB2.out.trans (hb.mono HB2.out.size))
  have HBM3 := Lib.hid hbm3
  have HBZ3 := Lib.hid hbz3
  clear k0
  have k0 := hbm3.cell
  clear hb hbm3 hbz3
  go_wp2_with fail
  obtain ⟨w4, hw4⟩ : ∃ W, W = w3.alloc (.cells #[.int .i64 id, .int .i64 now] 3) := ⟨_, rfl⟩
  have hb : Below w3.heap.size w3 w4 := by rw [hw4]; exact (Below.refl _ _).alloc (Nat.le_refl _) _
  have i0 : w4.cell? ⟨w3.heap.size, 0, none⟩ = some (.int .i64 id) := by rw [hw4]; simp
  have i1 : w4.cell? ⟨w3.heap.size, 1, none⟩ = some (.int .i64 now) := by rw [hw4]; simp
  rw [← hw4]
  have hbm4 := HBM3.out.below hb HBM3.out.lt
  have hbz4 := HBZ3.out.below hb HBZ3.out.lt
  have HB4 := Lib.hid (HB3.out.trans (hb.mono HB3.out.size))
  have HBM4 := Lib.hid hbm4
  have HBZ4 := Lib.hid hbz4
  clear k0
  have k0 := hbm4.cell
  clear hb hbm4 hbz4 hw4
  refine (mayBe_any _ id now false _ i0 i1 HSM.out).mono ?_
  rintro e w5 ⟨rfl, rfl⟩
  clear i0 i1
  have kz := HBZ4.out.cell
  have kf := HBZ4.out.free
  simp only [zc] at kz
  clear k0
  go_wp2_with fail
  obtain ⟨W6, hW6⟩ : ∃ W, W = set10 w4 (w.heap.size + 1) (.int .i64 0) (.int .i64 0) (.int .i64 0) (.int .i64 0) (.int .i64 0) (.int .i64 0) (.string ⟨#[]⟩) (.string ⟨#[]⟩) (.string ⟨#[]⟩) (.slice none 0 0) := ⟨_, rfl⟩
  have hb6 := box_set10 HBZ4.out (.int .i64 0) (.int .i64 0) (.int .i64 0) (.int .i64 0) (.int .i64 0) (.int .i64 0) (.string ⟨#[]⟩) (.string ⟨#[]⟩) (.string ⟨#[]⟩) (.slice none 0 0)
  have hl6 : Below w.heap.size w W6 := by rw [hW6]; exact below_set10 HB4.out (Nat.le_succ _) _ _ _ _ _ _ _ _ _ _
  rw [← hW6] at hb6
  have hs6 : W6.ownsRow w.heap.size 9 1 (.slice none 0 0) 0 [] := ⟨rfl, .inl ⟨rfl, rfl⟩⟩
  unfold set10 at hW6
  rw [← hW6]
  have hpm := hb6.cell
  refine bodyPost_ret (v := .tuple #[(zeroM).val (.slice none 0 0), .int .i64 1]) ?_ rfl ⟨none, 0, 0, rfl, hs6, hl6⟩
  simp [results, Try.results8, go_sem, hpm, MsgM.val, MsgM.cells, zeroM, reM, upM]
set_option maxHeartbeats 4000000 in
set_option maxRecDepth 100000 in
theorem again_re (m : MsgM) (vk : Value) (id : Int) (s : ByteArray) (now : Int) (w : World) (hk : Strs w 0 vk m.keys) (hcap : CapOk vk) (hsd : Sound m) (hn : m.keys.length ≤ 10000) (hs : s.size ≤ maxLen) (t : ByteArray) (ht : retryH ++ s = t) (hg : groupB s = true) (hm : mayB m = true) (hsm : (smallB id && smallB now) = true) (hr0 : 0 ≤ m.retry) (hr4 : m.retry < 4) (hnow0 : 0 ≤ now) (hnow : now ≤ 1099511627776) :
    Calls Try.prog 8 #[m.val vk, .int .i64 id, .string s, .int .i64 now] w (AgainTo (reM m id t now, 0) w) := by
  obtain ⟨W1, hW1⟩ : ∃ W, W = (w.alloc (.cells #[.int .i64 m.kind, .int .i64 m.queue, .int .i64 m.due, .int .i64 m.retry, .int .i64 m.ref, .int .i64 m.born, .string m.topic, .string m.tag, .string m.body, vk] 24)).alloc (.cells #[.int .i64 0, .int .i64 0, .int .i64 0, .int .i64 0, .int .i64 0, .int .i64 0, .string ⟨#[]⟩, .string ⟨#[]⟩, .string ⟨#[]⟩, .slice none 0 0] 24) := ⟨_, rfl⟩
  have hb1 : Below w.heap.size w W1 := by
    rw [hW1]
    exact ((Below.refl w.heap.size w).alloc (Nat.le_refl _) _).alloc (by simp only [World.size_alloc]; omega) _
  have hbm : Box W1 w.heap.size #[.int .i64 m.kind, .int .i64 m.queue, .int .i64 m.due, .int .i64 m.retry, .int .i64 m.ref, .int .i64 m.born, .string m.topic, .string m.tag, .string m.body, vk] := by rw [hW1]; exact (Box.new w _).alloc _
  have hbz : Box W1 (w.heap.size + 1) zc := by
    have := Box.new (w.alloc (.cells (m.cells vk) 24)) zc
    rw [World.size_alloc] at this
    rw [hW1]
    exact this
  have HGR : Hid (Calls Try.prog 17 #[.string s] W1 fun e w' => e = .returned (.bool true) ∧ Below W1.heap.size W1 w') := Lib.hid (by have := group_any s W1 hs; rw [hg] at this; exact this)
  have HMF : Hid (∀ W, Below w.heap.size w W → Calls Try.prog 18 #[.agg #[.int .i64 m.kind, .int .i64 m.queue, .int .i64 m.due, .int .i64 m.retry, .int .i64 m.ref, .int .i64 m.born, .string m.topic, .string m.tag, .string m.body, vk]] W fun e w' => e = .returned (.bool true) ∧ Below W.heap.size W w') := Lib.hid fun W h => mayFail_any m vk true W (hk.below h (Nat.le_refl _)) hcap hsd hm
  have HSM := Lib.hid hsm
  have HCL : Hid (∀ W, Below w.heap.size w W → Calls Try.prog 20 #[.agg #[.int .i64 m.kind, .int .i64 m.queue, .int .i64 m.due, .int .i64 m.retry, .int .i64 m.ref, .int .i64 m.born, .string m.topic, .string m.tag, .string m.body, vk], .int .i64 id, .string s, .int .i64 now] W (ReX m id t now W)) := Lib.hid fun W h => (retried_any m vk id s t now W (hk.below h (Nat.le_refl _)) hn hs hg ht hr0 hr4 hnow0 hnow).mono fun _ _ h => h
  have z4 : decide (m.retry < 4) = true := decide_eq_true hr4
  clear hsm hr0 hr4 hnow0 hnow
  have HB1 := Lib.hid hb1
  have HW1 := Lib.hid hW1
  have HBM := Lib.hid hbm
  have HBZ := Lib.hid hbz
  have k0 := hbm.cell
  clear hb1 hk hW1 hbm hbz hcap hsd
  unfold MsgM.val at *
  unfold MsgM.cells at *
  go_enter Try.func8, Try.ntmps8
  go_wp2_with fail
  rw [← HW1.out]
  refine HGR.out.mono ?_
  rintro e w2 ⟨rfl, hb⟩
  have hbm2 := HBM.out.below hb HBM.out.lt
  have hbz2 := HBZ.out.below hb HBZ.out.lt
  have HB2 := Lib.hid (HB1.out.trans (hb.mono HB1.out.size))
  have HBM2 := Lib.hid hbm2
  have HBZ2 := Lib.hid hbz2
  clear k0
  have k0 := hbm2.cell
  clear hb hbm2 hbz2
  go_wp2_with fail
  refine (HMF.out _ HB2.out).mono ?_
  rintro e w3 ⟨rfl, hb⟩
  have hbm3 := HBM2.out.below hb HBM2.out.lt
  have hbz3 := HBZ2.out.below hb HBZ2.out.lt
  have HB3 := Lib.hid (HB2.out.trans (hb.mono HB2.out.size))
  have HBM3 := Lib.hid hbm3
  have HBZ3 := Lib.hid hbz3
  clear k0
  have k0 := hbm3.cell
  clear hb hbm3 hbz3
  go_wp2_with fail
  obtain ⟨w4, hw4⟩ : ∃ W, W = w3.alloc (.cells #[.int .i64 id, .int .i64 now] 3) := ⟨_, rfl⟩
  have hb : Below w3.heap.size w3 w4 := by rw [hw4]; exact (Below.refl _ _).alloc (Nat.le_refl _) _
  have i0 : w4.cell? ⟨w3.heap.size, 0, none⟩ = some (.int .i64 id) := by rw [hw4]; simp
  have i1 : w4.cell? ⟨w3.heap.size, 1, none⟩ = some (.int .i64 now) := by rw [hw4]; simp
  rw [← hw4]
  have hbm4 := HBM3.out.below hb HBM3.out.lt
  have hbz4 := HBZ3.out.below hb HBZ3.out.lt
  have HB4 := Lib.hid (HB3.out.trans (hb.mono HB3.out.size))
  have HBM4 := Lib.hid hbm4
  have HBZ4 := Lib.hid hbz4
  clear k0
  have k0 := hbm4.cell
  clear hb hbm4 hbz4 hw4
  refine (mayBe_any _ id now true _ i0 i1 HSM.out).mono ?_
  rintro e w5 ⟨rfl, rfl⟩
  clear i0 i1
  go_wp2_with fail
  refine (HCL.out _ HB4.out).mono ?_
  rintro e w5 ⟨a, l, c, rfl, hst, hb⟩
  have hbz5 := HBZ4.out.below hb HBZ4.out.lt
  have HB5 := Lib.hid (HB4.out.trans (hb.mono HB4.out.size))
  have HBZ5 := Lib.hid hbz5
  have HS5 := Lib.hid (owns_base hst HB4.out.size)
  clear hb hst hbz5
  have kz := HBZ5.out.cell
  have kf := HBZ5.out.free
  simp only [zc] at kz
  clear k0
  go_wp2_with fail
  obtain ⟨W6, hW6⟩ : ∃ W, W = set10 w5 (w.heap.size + 1) (.int .i64 2) (.int .i64 0) (.int .i64 (now + delayN (m.retry + 1))) (.int .i64 (m.retry + 1)) (.int .i64 id) (.int .i64 now) (.string t) (.string m.tag) (.string m.body) (.slice a l c) := ⟨_, rfl⟩
  have hb6 := box_set10 HBZ5.out (.int .i64 2) (.int .i64 0) (.int .i64 (now + delayN (m.retry + 1))) (.int .i64 (m.retry + 1)) (.int .i64 id) (.int .i64 now) (.string t) (.string m.tag) (.string m.body) (.slice a l c)
  have hl6 : Below w.heap.size w W6 := by rw [hW6]; exact below_set10 HB5.out (Nat.le_succ _) _ _ _ _ _ _ _ _ _ _
  rw [← hW6] at hb6
  have hs6 : W6.ownsRow w.heap.size 9 1 (.slice a l c) m.keys.length (m.keys.map Value.string) := by rw [hW6]; exact owns_box HS5.out HBZ5.out _ _ _ _ _ _ _ _ _ _
  unfold set10 at hW6
  rw [← hW6]
  have hpm := hb6.cell
  refine bodyPost_ret (v := .tuple #[(reM m id t now).val (.slice a l c), .int .i64 0]) ?_ rfl ⟨a, l, c, rfl, hs6, hl6⟩
  simp [results, Try.results8, go_sem, hpm, MsgM.val, MsgM.cells, zeroM, reM, upM]
set_option maxHeartbeats 4000000 in
set_option maxRecDepth 100000 in
theorem again_up (m : MsgM) (vk : Value) (id : Int) (s : ByteArray) (now : Int) (w : World) (hk : Strs w 0 vk m.keys) (hcap : CapOk vk) (hsd : Sound m) (hn : m.keys.length ≤ 10000) (hs : s.size ≤ maxLen) (t : ByteArray) (ht : deadH ++ s = t) (hg : groupB s = true) (hm : mayB m = true) (hsm : (smallB id && smallB now) = true) (hr4 : ¬ m.retry < 4) :
    Calls Try.prog 8 #[m.val vk, .int .i64 id, .string s, .int .i64 now] w (AgainTo (upM m t now, 0) w) := by
  obtain ⟨W1, hW1⟩ : ∃ W, W = (w.alloc (.cells #[.int .i64 m.kind, .int .i64 m.queue, .int .i64 m.due, .int .i64 m.retry, .int .i64 m.ref, .int .i64 m.born, .string m.topic, .string m.tag, .string m.body, vk] 24)).alloc (.cells #[.int .i64 0, .int .i64 0, .int .i64 0, .int .i64 0, .int .i64 0, .int .i64 0, .string ⟨#[]⟩, .string ⟨#[]⟩, .string ⟨#[]⟩, .slice none 0 0] 24) := ⟨_, rfl⟩
  have hb1 : Below w.heap.size w W1 := by
    rw [hW1]
    exact ((Below.refl w.heap.size w).alloc (Nat.le_refl _) _).alloc (by simp only [World.size_alloc]; omega) _
  have hbm : Box W1 w.heap.size #[.int .i64 m.kind, .int .i64 m.queue, .int .i64 m.due, .int .i64 m.retry, .int .i64 m.ref, .int .i64 m.born, .string m.topic, .string m.tag, .string m.body, vk] := by rw [hW1]; exact (Box.new w _).alloc _
  have hbz : Box W1 (w.heap.size + 1) zc := by
    have := Box.new (w.alloc (.cells (m.cells vk) 24)) zc
    rw [World.size_alloc] at this
    rw [hW1]
    exact this
  have HGR : Hid (Calls Try.prog 17 #[.string s] W1 fun e w' => e = .returned (.bool true) ∧ Below W1.heap.size W1 w') := Lib.hid (by have := group_any s W1 hs; rw [hg] at this; exact this)
  have HMF : Hid (∀ W, Below w.heap.size w W → Calls Try.prog 18 #[.agg #[.int .i64 m.kind, .int .i64 m.queue, .int .i64 m.due, .int .i64 m.retry, .int .i64 m.ref, .int .i64 m.born, .string m.topic, .string m.tag, .string m.body, vk]] W fun e w' => e = .returned (.bool true) ∧ Below W.heap.size W w') := Lib.hid fun W h => mayFail_any m vk true W (hk.below h (Nat.le_refl _)) hcap hsd hm
  have HSM := Lib.hid hsm
  have HCL : Hid (∀ W, Below w.heap.size w W → Calls Try.prog 21 #[.agg #[.int .i64 m.kind, .int .i64 m.queue, .int .i64 m.due, .int .i64 m.retry, .int .i64 m.ref, .int .i64 m.born, .string m.topic, .string m.tag, .string m.body, vk], .string s, .int .i64 now] W (UpX m t now W)) := Lib.hid fun W h => (givenUp_any m vk s t now W (hk.below h (Nat.le_refl _)) hn hs hg ht).mono fun _ _ h => h
  have z4 : decide (m.retry < 4) = false := decide_eq_false hr4
  clear hsm hr4
  have HB1 := Lib.hid hb1
  have HW1 := Lib.hid hW1
  have HBM := Lib.hid hbm
  have HBZ := Lib.hid hbz
  have k0 := hbm.cell
  clear hb1 hk hW1 hbm hbz hcap hsd
  unfold MsgM.val at *
  unfold MsgM.cells at *
  go_enter Try.func8, Try.ntmps8
  go_wp2_with fail
  rw [← HW1.out]
  refine HGR.out.mono ?_
  rintro e w2 ⟨rfl, hb⟩
  have hbm2 := HBM.out.below hb HBM.out.lt
  have hbz2 := HBZ.out.below hb HBZ.out.lt
  have HB2 := Lib.hid (HB1.out.trans (hb.mono HB1.out.size))
  have HBM2 := Lib.hid hbm2
  have HBZ2 := Lib.hid hbz2
  clear k0
  have k0 := hbm2.cell
  clear hb hbm2 hbz2
  go_wp2_with fail
  refine (HMF.out _ HB2.out).mono ?_
  rintro e w3 ⟨rfl, hb⟩
  have hbm3 := HBM2.out.below hb HBM2.out.lt
  have hbz3 := HBZ2.out.below hb HBZ2.out.lt
  have HB3 := Lib.hid (HB2.out.trans (hb.mono HB2.out.size))
  have HBM3 := Lib.hid hbm3
  have HBZ3 := Lib.hid hbz3
  clear k0
  have k0 := hbm3.cell
  clear hb hbm3 hbz3
  go_wp2_with fail
  obtain ⟨w4, hw4⟩ : ∃ W, W = w3.alloc (.cells #[.int .i64 id, .int .i64 now] 3) := ⟨_, rfl⟩
  have hb : Below w3.heap.size w3 w4 := by rw [hw4]; exact (Below.refl _ _).alloc (Nat.le_refl _) _
  have i0 : w4.cell? ⟨w3.heap.size, 0, none⟩ = some (.int .i64 id) := by rw [hw4]; simp
  have i1 : w4.cell? ⟨w3.heap.size, 1, none⟩ = some (.int .i64 now) := by rw [hw4]; simp
  rw [← hw4]
  have hbm4 := HBM3.out.below hb HBM3.out.lt
  have hbz4 := HBZ3.out.below hb HBZ3.out.lt
  have HB4 := Lib.hid (HB3.out.trans (hb.mono HB3.out.size))
  have HBM4 := Lib.hid hbm4
  have HBZ4 := Lib.hid hbz4
  clear k0
  have k0 := hbm4.cell
  clear hb hbm4 hbz4 hw4
  refine (mayBe_any _ id now true _ i0 i1 HSM.out).mono ?_
  rintro e w5 ⟨rfl, rfl⟩
  clear i0 i1
  go_wp2_with fail
  refine (HCL.out _ HB4.out).mono ?_
  rintro e w5 ⟨a, l, c, rfl, hst, hb⟩
  have hbz5 := HBZ4.out.below hb HBZ4.out.lt
  have HB5 := Lib.hid (HB4.out.trans (hb.mono HB4.out.size))
  have HBZ5 := Lib.hid hbz5
  have HS5 := Lib.hid (owns_base hst HB4.out.size)
  clear hb hst hbz5
  have kz := HBZ5.out.cell
  have kf := HBZ5.out.free
  simp only [zc] at kz
  clear k0
  go_wp2_with fail
  obtain ⟨W6, hW6⟩ : ∃ W, W = set10 w5 (w.heap.size + 1) (.int .i64 1) (.int .i64 0) (.int .i64 0) (.int .i64 m.retry) (.int .i64 0) (.int .i64 now) (.string t) (.string m.tag) (.string m.body) (.slice a l c) := ⟨_, rfl⟩
  have hb6 := box_set10 HBZ5.out (.int .i64 1) (.int .i64 0) (.int .i64 0) (.int .i64 m.retry) (.int .i64 0) (.int .i64 now) (.string t) (.string m.tag) (.string m.body) (.slice a l c)
  have hl6 : Below w.heap.size w W6 := by rw [hW6]; exact below_set10 HB5.out (Nat.le_succ _) _ _ _ _ _ _ _ _ _ _
  rw [← hW6] at hb6
  have hs6 : W6.ownsRow w.heap.size 9 1 (.slice a l c) m.keys.length (m.keys.map Value.string) := by rw [hW6]; exact owns_box HS5.out HBZ5.out _ _ _ _ _ _ _ _ _ _
  unfold set10 at hW6
  rw [← hW6]
  have hpm := hb6.cell
  refine bodyPost_ret (v := .tuple #[(upM m t now).val (.slice a l c), .int .i64 0]) ?_ rfl ⟨a, l, c, rfl, hs6, hl6⟩
  simp [results, Try.results8, go_sem, hpm, MsgM.val, MsgM.cells, zeroM, reM, upM]
theorem may_right {m : MsgM} (h : mayB m = true) : rightB m = true ∧ (m.kind = 1 ∨ m.kind = 3) := by
  unfold mayB at h
  simpa using h
theorem right_whole {m : MsgM} (h : rightB m = true) (hk : m.kind = 1 ∨ m.kind = 3) : wholeB m = true := by
  unfold rightB restB at h
  rw [Bool.and_eq_true] at h
  have h2 := h.2
  rcases hk with hk | hk
  · rw [if_neg (by omega), if_pos hk, Bool.and_eq_true] at h2
    exact h2.1
  · rw [if_neg (by omega), if_neg (by omega), if_pos (.inr hk)] at h2
    exact h2
theorem right_retry {m : MsgM} (h : rightB m = true) (hk : m.kind = 1 ∨ m.kind = 3) : 0 ≤ m.retry := by
  have h2 := right_whole h hk
  unfold wholeB at h2
  simp only [Bool.and_eq_true] at h2
  have h3 := h2.2.1
  unfold allIn at h3
  simp at h3
  exact h3.1
theorem again_any (m : MsgM) (vk : Value) (id : Int) (s : ByteArray) (now : Int) (x : MsgM × Int) (w : World) (hk : Strs w 0 vk m.keys) (hcap : CapOk vk) (hsd : Sound m) (hn : m.keys.length ≤ 10000) (hs : s.size ≤ maxLen) (hx : againM m id s now = x) :
    Calls Try.prog 8 #[m.val vk, .int .i64 id, .string s, .int .i64 now] w (AgainTo x w) := by
  unfold againM at hx
  subst hx
  split
  · rename_i hg
    exact again_name m vk id s now w hk hcap hsd hn hs hg
  · rename_i hg
    have hg : groupB s = true := by simpa using hg
    split
    · rename_i hm
      by_cases h1 : mayB m = true
      · rw [h1, Bool.true_and] at hm
        exact again_arg2 m vk id s now w hk hcap hsd hn hs hg h1 hm
      · exact again_arg1 m vk id s now w hk hcap hsd hn hs hg (by simpa using h1)
    · rename_i hm
      have hm : (mayB m && (smallB id && smallB now)) = true := by simpa using hm
      rw [Bool.and_eq_true] at hm
      have hsm := hm.2
      rw [Bool.and_eq_true] at hsm
      have hnow := hsm.2
      unfold smallB at hnow
      simp only [Bool.and_eq_true, decide_eq_true_eq] at hnow
      have hr := may_right hm.1
      split
      · rename_i h4
        exact again_re m vk id s now w hk hcap hsd hn hs _ rfl hg hm.1 hm.2 (right_retry hr.1 hr.2) h4 hnow.1 (by omega)
      · rename_i h4
        exact again_up m vk id s now w hk hcap hsd hn hs _ rfl hg hm.1 hm.2 h4
end Go.Proofs.Ytmekmcgdjlmmcaa

