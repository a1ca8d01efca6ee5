/-
  Part 30: what the statement needs of these texts: UApP.
-/
import Derived.BigQuiet
import Derived.Deep.AppendLies
import Derived.Deep.AppendSrc
import Derived.Deep.DeepCutAuto
import Derived.Deep.DeepMust
import Derived.Deep.OwnRows
import Derived.Deep.QuietTactic
import Derived.Deep.RegionHeld3
import Derived.Deep.RegionLaw
import Derived.IntWalk
import Derived.Laws.BitsAllLaws
import Derived.Laws.CopyOwn
import Derived.Laws.OwnMore
import Derived.Laws.PanicsMore
import Derived.Laws.Rows
import Derived.Laws.StructEq
import Derived.Lib.AppendStr
import Derived.Lib.AppendZerosOnto
import Derived.Lib.BufferRead
import Derived.Lib.BufferWrite
import Derived.Lib.Hide
import Derived.Lib.OthersKept
import Derived.Maps.AppendAt
import Derived.Maps.OwnSet
import Derived.Maps.RangeWalk
import Derived.Orders
import Derived.ProofKit
import Derived.RowKit
import Derived.Shelf.Slices.In.SortNone
import Derived.Shelf.Sort.Plain
import Derived.Shelf.Strings.Prefix
import Derived.Sort.OwnSorted
import Derived.StillTailTactics
import Derived.StringKeys
import Derived.Test.YtcdoicndpecfiaaProg
import Derived.Test.YtcdoicndpecfiaaRows
import Derived.WalkKit
import Derived.WalkLawsBesides
import Derived.WalkSmall
import Derived.WalkSpells
import Derived.Test.YtcdoicndpecfiaaUa1
import Derived.Test.YtcdoicndpecfiaaUa2
import Derived.Test.YtcdoicndpecfiaaUa3
import Derived.Test.YtcdoicndpecfiaaUa4
import Derived.Test.YtcdoicndpecfiaaUa5
import Derived.Test.YtcdoicndpecfiaaUa6
import Derived.Test.YtcdoicndpecfiaaUa7
import Derived.Test.YtcdoicndpecfiaaUa8
import Derived.Test.YtcdoicndpecfiaaUa9
import Derived.Test.YtcdoicndpecfiaaUa10
import Derived.Test.YtcdoicndpecfiaaUa11
import Derived.Test.YtcdoicndpecfiaaUa12
import Derived.Test.YtcdoicndpecfiaaUa13
import Derived.Test.YtcdoicndpecfiaaUa14
import Derived.Test.YtcdoicndpecfiaaUa15
import Derived.Test.YtcdoicndpecfiaaUa16
import Derived.Test.YtcdoicndpecfiaaUa17
import Derived.Test.YtcdoicndpecfiaaUa18
import Derived.Test.YtcdoicndpecfiaaUa19
import Derived.Test.YtcdoicndpecfiaaUa20
import Derived.Test.YtcdoicndpecfiaaUa21
import Derived.Test.YtcdoicndpecfiaaUa22
import Derived.Test.YtcdoicndpecfiaaUa23
import Derived.Test.YtcdoicndpecfiaaUa24
import Derived.Test.YtcdoicndpecfiaaUa25
import Derived.Test.YtcdoicndpecfiaaUa26
import Derived.Test.YtcdoicndpecfiaaUa27
import Derived.Test.YtcdoicndpecfiaaUa28
import Derived.Test.YtcdoicndpecfiaaUa29
namespace Go.Proofs.Ytcdoicndpecfiaa
open Go.RowKit Go.Deep Go.ChangeMaps Go.WideShapes
set_option linter.unusedVariables false
set_option linter.unusedSimpArgs false

def uKey {P : Program} {k : TypeId} (hk : P.underlying k = some .string) : KeyK P k ByteArray where
  kv s := .string s
  kl s := .string s.data.toList
  ok s := s.size ≤ maxLen
  law := Go.Maps.string_keyed hk
  key s h := WideMaps.keyOf_string_mk hk h
  inv v l h := by obtain ⟨s, h1, h2, h3⟩ := WideMaps.string_of_keyOf hk h; exact ⟨s, h3, h1, h2⟩
  isK _ := trivial
  inj a b h := by injection h with h; exact ByteArray.ext (Array.toList_inj.1 h)
def uElR : Value → Option (DataW Unit × List MemPlace)
  | .string s => some (.lit (.string s.data.toList), [])
  | _ => none
theorem uElR_inv {v : Value} {y : DataW Unit × List MemPlace} (h : uElR v = some y) : ∃ b : ByteArray, v = .string b ∧ y = (.lit (.string b.data.toList), []) := by
  unfold uElR at h
  split at h
  · cases h; exact ⟨_, rfl, rfl⟩
  · cases h
def uEl : ElK ByteArray where
  R := uElR
  ev s := .string s
  ed s := .lit (.string s.data.toList)
  el _ := rfl
  inv _ _ h := uElR_inv h
  inj a b h := by injection h with h; injection h with h; exact ByteArray.ext (Array.toList_inj.1 h)
noncomputable abbrev uK : KeyK Try.prog 9 ByteArray := uKey (P := Try.prog) Try.underlying9
theorem str_zero : ∀ w, (zeroValue 9).run Try.prog w = .ok (.string ⟨#[]⟩) w := fun w => by kernel_rfl
theorem wpList_store_uu {w : World} {ops : Array Oper} {rest : List Oper} {o : Oper} {a : Act} {Q : Exit → Act → World → Prop} (hg : o.guard = none) (m x v : Operand) (hop : o.op = Op.mapUpdate 44 m x v) (mm : Nat) (M : List (ByteArray × ByteArray)) (p l : ByteArray)
    (hm : a.eval m = .map (some mm)) (hx : a.eval x = .string p) (hv : a.eval v = .string l) (h : MapK uK uEl w mm M) (hp : p.size ≤ maxLen) (hn : M.length < maxLen)
    (hK : ∀ w', MapK uK uEl w' mm (dropK M p ++ [(p, l)]) → w.grownBy w' (some mm) → w'.heap.size = w.heap.size → wpList Try.prog ops Q rest (a.put o.dst undef) w') : wpList Try.prog ops Q (o :: rest) a w := by
  refine wpList_plain hg fun K' hK' => ?_
  obtain ⟨w', hrun, r1, r2, r3⟩ := h.store (t := 44) (e := 9) Try.underlying44 p hp l hn
  have hrun : (Instr.mapUpdate 44 (.map (some mm)) (.string p) (.string l)).run Try.prog w = .ok () w' := hrun
  unfold Oper.wp
  simp [execOp, hop, hm, hx, hv, hrun, Result.andThen]
  exact hK' _ _ (hK w' r1 r2 r3)

def oneB : ByteArray := ⟨#[111, 110, 101]⟩
def twoB : ByteArray := ⟨#[116, 119, 111]⟩
def IsNm (k : ByteArray) : Prop := k = oneB ∨ k = twoB
theorem IsNm.size {k : ByteArray} (h : IsNm k) : k.size = 3 := by rcases h with rfl | rfl <;> rfl
theorem IsNm.fresh {k j : ByteArray} (h : IsNm k) (hj : IsNm j) : j ≠ freshB k := by
  rcases h with rfl | rfl <;> rcases hj with rfl | rfl <;> decide
def sealed (s : ByteArray) : ByteArray := ⟨(Cr.sealB s).toArray⟩
theorem sealed_size (s : ByteArray) : (sealed s).size = 4 + s.size := by unfold sealed; rw [ba_size, Cr.sealB_length]
/-- The disk has just these texts. -/
structure ApI (n : Nat) (st : St) (M : List (ByteArray × ByteArray)) : Prop where
  ease : Ease n st
  cap : st.cap = 65536
  perm : (st.fs.map (·.1)).Perm (M.map (·.1))
  nms : ∀ p ∈ M, IsNm p.1
  has : ∀ k s, getK M k = some s → HasF st k (sealed s)
  each : ∀ p ∈ st.fs, p.2.bytes.length ≤ 104
theorem ApI.new : ApI 0 (newSt 65536) [] := ⟨Ease.new _, rfl, List.Perm.refl _, fun p h => (by cases h), fun k s h => (by cases h), fun p h => (by cases h)⟩
theorem sum_each (fs : List (ByteArray × FileM)) (h : ∀ p ∈ fs, p.2.bytes.length ≤ 104) : sumB fs ≤ 104 * fs.length := by
  induction fs with
  | nil => exact Nat.zero_le _
  | cons p l ih =>
    rw [sumB_cons, List.length_cons]
    have := h p (List.mem_cons_self ..)
    have := ih fun q hq => h q (List.mem_cons_of_mem _ hq)
    omega
theorem ApI.none_ {n : Nat} {st : St} {M : List (ByteArray × ByteArray)} (h : ApI n st M) {k : ByteArray} (hk : k ∉ M.map (·.1)) : st.find k = none := by
  unfold St.find
  rw [Option.map_eq_none_iff, List.find?_eq_none]
  intro p hp
  have h1 : p.1 ∈ M.map (·.1) := h.perm.mem_iff.1 (List.mem_map_of_mem hp)
  have : p.1 ≠ k := fun e => hk (e ▸ h1)
  simp [this]
theorem map_dropF (fs : List (ByteArray × FileM)) (a : ByteArray) : (dropF fs a).map (·.1) = (fs.map (·.1)).filter (fun x => !decide (x = a)) := by
  unfold dropF
  rw [List.filter_map]
  rfl
theorem map_dropK (M : List (ByteArray × ByteArray)) (a : ByteArray) : (dropK M a).map (·.1) = (M.map (·.1)).filter (fun x => !decide (x = a)) := by
  unfold dropK
  rw [List.filter_map]
  rfl
theorem getK_put {α β : Type} [DecidableEq α] (M : List (α × β)) (a k : α) (b : β) : getK (dropK M a ++ [(a, b)]) k = if k = a then some b else getK M k := by
  unfold getK dropK
  rw [List.find?_append, List.find?_filter]
  by_cases hk : k = a
  · subst hk
    rw [if_pos rfl]
    have : M.find? (fun p => decide ((!decide (p.1 = k)) = true ∧ decide (p.1 = k) = true)) = none := List.find?_eq_none.2 fun p _ => by simp
    rw [this]
    simp
  · rw [if_neg hk]
    have : (fun p : α × β => decide ((!decide (p.1 = a)) = true ∧ decide (p.1 = k) = true)) = fun p => decide (p.1 = k) := by
      funext p
      by_cases h : p.1 = k
      · subst h; simp [hk]
      · simp [h]
    rw [this]
    have h2 : decide (a = k) = false := by simp [Ne.symm hk]
    simp [List.find?_cons, h2]
theorem fd_not {fs : List (ByteArray × FileM)} {a b : ByteArray} (F : FileM) (h : a ≠ b) : fd (dropF fs b ++ [(b, F)]) a = fd fs a := (fd_snoc _ F h).trans (fd_dropF _ h)
theorem ApI.save {n : Nat} {st : St} {M : List (ByteArray × ByteArray)} (h : ApI n st M) (hn : n ≤ 200) {nm s : ByteArray} (hnm : IsNm nm) (hs : s.size ≤ 100) :
    saveE st (freshB nm) nm (sealed s) = 0 ∧ ApI (n + 2) (saveS st (freshB nm) nm (sealed s)) (dropK M nm ++ [(nm, s)]) := by
  have hf : st.find (freshB nm) = none := h.none_ (fun hx => by
    obtain ⟨p, hp, e⟩ := List.mem_map.1 hx
    exact hnm.fresh (h.nms p hp) e)
  have hsz : st.size ≤ 104 * 200 := by
    have h1 := h.ease.good.sum
    have h2 := sum_each _ h.each
    have h3 := h.ease.good.len
    have h4 : 104 * st.fs.length ≤ 104 * 200 := Nat.mul_le_mul_left _ (by omega)
    omega
  have hb := sealed_size s
  obtain ⟨e1, e2⟩ := h.ease.save hf (hnm.fresh hnm) (b := sealed s) (by omega) (by rw [h.cap]; omega)
  have e3 := h.ease.saved hf (hnm.fresh hnm) (b := sealed s) (by omega) (by rw [h.cap]; omega)
  refine ⟨e1, ?_⟩
  rw [e2]
  have hfs : (savedS st nm (sealed s)).fs = dropF st.fs nm ++ [(nm, wholeF (sealed s))] := rfl
  refine ⟨e3, h.cap, ?_, fun p hp => ?_, fun k t hk => ?_, fun p hp => ?_⟩
  · rw [hfs, List.map_append, List.map_append, map_dropF, map_dropK]
    exact (h.perm.filter _).append_right _
  · rcases List.mem_append.1 hp with a | a
    · exact h.nms p (List.mem_filter.1 a).1
    · simp at a; rw [a]; exact hnm
  · rw [getK_put] at hk
    by_cases hkn : k = nm
    · rw [if_pos hkn] at hk
      injection hk with hk
      subst hk
      subst hkn
      have hnone : fd (dropF st.fs k) k = none := fd_dropF_same _ _
      exact ⟨wholeF (sealed s), fd_same _ _ _ hnone, rfl, rfl⟩
    · rw [if_neg hkn] at hk
      obtain ⟨F, f1, f2, f3⟩ := h.has k t hk
      exact ⟨F, (fd_not (fs := st.fs) (wholeF (sealed s)) hkn).trans f1, f2, f3⟩
  · rw [hfs] at hp
    rcases List.mem_append.1 hp with a | a
    · exact h.each p (List.mem_filter.1 a).1
    · simp at a
      rw [a]
      show (sealed s).data.toList.length ≤ 104
      rw [text_len]
      omega
/-- What is read of a text. -/
def rdA (M : List (ByteArray × ByteArray)) (k : ByteArray) : ByteArray := (getK M k).getD ⟨#[]⟩
theorem ApI.load {n : Nat} {st : St} {M : List (ByteArray × ByteArray)} (h : ApI n st M) (k : ByteArray) : loadR st k = (rdA M k, (getK M k).isSome, 0) := by
  unfold loadR rdA
  rw [if_neg (by rw [h.ease.down]; simp)]
  cases hg : getK M k with
  | none =>
    rw [h.none_ (fun hx => by
      obtain ⟨p, hp, e⟩ := List.mem_map.1 hx
      exact getK_none hg p hp e)]
    rfl
  | some s =>
    obtain ⟨F, f1, f2, _⟩ := h.has k s hg
    rw [f1]
    simp only
    rw [f2, ba_of]
    unfold sealed
    rw [Cr.sealed_opens, if_pos rfl, Cr.sealed_back]
    rfl

/-- The disk, and the law's map, in a world that is all new since w0. -/
def ApW (w0 w : World) (d mb n : Nat) (M M2 : List (ByteArray × ByteArray)) : Prop :=
  ∃ g st, DiskAt w g st ∧ g.d = d ∧ ApI n st M ∧ MapK uK uEl w mb M2 ∧ mb ∉ g.fp ∧ w0.heap.size ≤ mb ∧ (∀ k ∈ g.fp, w0.heap.size ≤ k) ∧ Chg (fun _ => False) w0 w
theorem ApW.new {w0 w w' : World} {d mb n : Nat} {M M2 : List (ByteArray × ByteArray)} (h : ApW w0 w d mb n M M2) (hc : Chg (fun _ => False) w w') : ApW w0 w' d mb n M M2 := by
  obtain ⟨g, st, a1, a2, a3, a4, a5, a6, a7, a8⟩ := h
  exact ⟨g, st, a1.new hc, a2, a3, a4.heap (hc.block mb a4.lt (fun e => e)), a5, a6, a7, a8.trans hc (fun _ _ e => e)⟩
theorem ApW.below {w0 w : World} {d mb n : Nat} {M M2 : List (ByteArray × ByteArray)} (h : ApW w0 w d mb n M M2) : Below w0.heap.size w0 w := by
  obtain ⟨g, st, a1, a2, a3, a4, a5, a6, a7, a8⟩ := h
  exact a8.below (fun _ _ e => e.elim) (Nat.le_refl _)
theorem ApW.stored {w0 w w' : World} {d mb n : Nat} {M M2 M3 : List (ByteArray × ByteArray)} (h : ApW w0 w d mb n M M2) (hg : w.grownBy w' (some mb)) (hm : MapK uK uEl w' mb M3) : ApW w0 w' d mb n M M3 := by
  obtain ⟨g, st, a1, a2, a3, a4, a5, a6, a7, a8⟩ := h
  have hc : Chg (fun k => k = mb) w w' := Chg.of_grown hg (fun k hk _ => by injection hk with hk; exact hk.symm)
  exact ⟨g, st, a1.chg hc (fun k hk e => a5 (e ▸ hk)), a2, a3, hm, a5, a6, a7, a8.trans hc (fun i hi e => by omega)⟩
theorem ApW.save {w0 w : World} {d mb n : Nat} {M M2 : List (ByteArray × ByteArray)} (h : ApW w0 w d mb n M M2) (hn : n ≤ 200) {nm s : ByteArray} (hnm : IsNm nm) (hs : s.size ≤ 100) :
    Calls Try.prog 18 #[.pointer (some ⟨d, 0, none⟩), .string nm, .string s] w fun e w' => e = .returned (.int .i64 0) ∧ ApW w0 w' d mb (n + 2) (dropK M nm ++ [(nm, s)]) M2 := by
  obtain ⟨g, st, a1, a2, a3, a4, a5, a6, a7, a8⟩ := h
  obtain ⟨e1, e2⟩ := a3.save hn hnm hs
  have := save_any nm s a1 a3.ease.good (by omega) (by rw [hnm.size]; omega) (by omega)
  rw [a2] at this
  refine this.mono ?_
  intro e w' hx
  unfold SaveTo at hx
  obtain ⟨he, g', hd, ht⟩ := hx
  rw [show (⟨(Cr.sealB s).toArray⟩ : ByteArray) = sealed s from rfl] at he hd
  rw [e1] at he
  have hz := a8.size
  refine ⟨he, g', _, hd, ht.d.trans a2, e2, a4.heap (ht.chg.block mb a4.lt a5), fun hx => ?_, a6, fun k hk => ?_, a8.trans ht.chg (fun i hi hx => by have := a7 i hx; omega)⟩
  · rcases ht.fp mb hx with a | a
    · exact a5 a
    · have := a4.lt; omega
  · rcases ht.fp k hk with a | a
    · exact a7 k a
    · omega
theorem ApW.load {w0 w : World} {d mb n : Nat} {M M2 : List (ByteArray × ByteArray)} (h : ApW w0 w d mb n M M2) {k : ByteArray} (hk : k.size ≤ 1000) :
    Calls Try.prog 19 #[.pointer (some ⟨d, 0, none⟩), .string k] w fun e w' => e = .returned (.tuple #[.string (rdA M k), .bool (getK M k).isSome, .int .i64 0]) ∧ Below w.heap.size w w' := by
  obtain ⟨g, st, a1, a2, a3, a4, a5, a6, a7, a8⟩ := h
  have := load_any k a1 (by unfold maxLen; omega) (fun f hf => by have := a3.each _ (find_mem hf); simp only at this; omega)
  unfold LoadTo at this
  rw [a3.load k, a2] at this
  exact this
theorem ApW.look {w0 w : World} {d mb n : Nat} {M M2 : List (ByteArray × ByteArray)} (h : ApW w0 w d mb n M M2) {k : ByteArray} (hk : k.size ≤ maxLen) :
    (Instr.lookup 44 (.map (some mb)) (.string k) true).run Try.prog w = .ok (.tuple #[.string (rdA M2 k), .bool (getK M2 k).isSome]) w := by
  obtain ⟨g, st, a1, a2, a3, a4, a5, a6, a7, a8⟩ := h
  have := a4.look (t := 44) (e := 9) Try.underlying44 (z := ⟨#[]⟩) (str_zero w) k hk true
  exact this
theorem begins_all (l : List Ent) : (begins ⟨#[]⟩ l).length = l.length := by
  unfold begins
  rw [List.length_map, List.filter_eq_self.2 (fun e _ => by cases e.name.data.toList <;> rfl)]
theorem ApW.list {w0 w : World} {d mb n : Nat} {M : List (ByteArray × ByteArray)} (h : ApW w0 w d mb n M M) (hn : n ≤ 1000) :
    Calls Try.prog 20 #[.pointer (some ⟨d, 0, none⟩), .string ⟨#[]⟩] w fun e w' => ∃ a cap, e = .returned (.slice a M.length cap) ∧ Below w.heap.size w w' := by
  obtain ⟨g, st, a1, a2, a3, a4, a5, a6, a7, a8⟩ := h
  have := list_any g st ⟨#[]⟩ w a1 (by have := a3.ease.good.len; omega)
  rw [a2] at this
  refine this.mono ?_
  rintro e w' ⟨v, vis, he, hp, ho, hb⟩
  have hl : (begins ⟨#[]⟩ vis).length = M.length := by
    rw [begins_all, hp.length_eq]
    have h1 := congrArg List.length a1.fs
    have h2 := a3.perm.length_eq
    rw [List.length_map] at h1
    rw [List.length_map, List.length_map] at h2
    omega
  rw [hl] at ho
  rcases ho.2 with ⟨hv, h0⟩ | ⟨g0, cap, cur, hv, _⟩
  · exact ⟨none, 0, by rw [he, hv, h0], hb⟩
  · exact ⟨_, cap, by rw [he, hv], hb⟩
theorem ApW.len {w0 w : World} {d mb n : Nat} {M M2 : List (ByteArray × ByteArray)} (h : ApW w0 w d mb n M M2) (ty : TypeId) : (Builtin.len_ #[44] ty #[.map (some mb)]).run Try.prog w = .ok (.int .i64 M2.length) w := by
  obtain ⟨g, st, a1, a2, a3, a4, a5, a6, a7, a8⟩ := h
  exact a4.len (t := 44) (e := 9) Try.underlying44 ty
end Go.Proofs.Ytcdoicndpecfiaa

