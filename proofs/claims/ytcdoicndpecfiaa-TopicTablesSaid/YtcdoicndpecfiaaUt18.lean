/-
  Part 18: what the statement needs of these texts: DMap, DMapW.
-/
import Derived.BigQuiet
import Derived.Deep.OwnRows
import Derived.Deep.QuietTactic
import Derived.Laws.CopyOwn
import Derived.Lib.AppendZerosOnto
import Derived.Lib.BufferWrite
import Derived.Lib.Hide
import Derived.Maps.OwnSet
import Derived.Maps.RangeWalk
import Derived.ProofKit
import Derived.StringKeys
import Derived.Test.YtcdoicndpecfiaaRows
import Derived.WalkKit
import Derived.WalkLawsBesides
import Derived.WalkSpells
import Derived.Test.YtcdoicndpecfiaaUt4
import Derived.Test.YtcdoicndpecfiaaUt9
import Derived.Test.YtcdoicndpecfiaaUt13
namespace Go.Proofs.Ytcdoicndpecfiaa
open Go.RowKit Go.Deep Go.ChangeMaps Go.WideShapes
open Go.Maps (Keyed)

def pk (b : Nat) : Value := .pointer (some ⟨b, 0, none⟩)
/-- A file's pointer reads as its block. -/
def ptrElem : Value → Option (DataW Unit × List MemPlace)
  | .pointer (some ⟨b, 0, none⟩) => some (.lit (.int .i64 b), [])
  | _ => none
theorem ptrElem_inv {v : Value} {y : DataW Unit × List MemPlace} (h : ptrElem v = some y) : ∃ b : Nat, v = pk b ∧ y = (.lit (.int .i64 b), []) := by
  unfold ptrElem at h
  split at h
  · cases h; exact ⟨_, rfl, rfl⟩
  · cases h
theorem ptrElem_pk (b : Nat) : ptrElem (pk b) = some (.lit (.int .i64 b), []) := rfl

def pairOf (e : Ent) : Lit × DataW Unit := (.string e.name.data.toList, .lit (.int .i64 e.blk))
theorem name_eq {a b : ByteArray} (h : a.data.toList = b.data.toList) : a = b := ByteArray.ext (Array.toList_inj.1 h)
theorem key_same (e : Ent) (nm : ByteArray) : (pairOf e).1.sameKey (.string nm.data.toList) = decide (e.name = nm) := by
  rw [Bool.eq_iff_iff]
  constructor
  · intro h
    have h' : (Lit.string e.name.data.toList) = .string nm.data.toList := WideAt.sameKey_eq h
    exact decide_eq_true (name_eq (by simpa using h'))
  · intro h
    obtain rfl := of_decide_eq_true h
    exact WideAt.sameKey_self trivial

def names (es : List Ent) : List ByteArray := es.map (·.name)
def getE (es : List Ent) (nm : ByteArray) : Option Ent := es.find? fun e => decide (e.name = nm)
theorem getE_mem {es : List Ent} {nm : ByteArray} {e : Ent} (h : getE es nm = some e) : e ∈ es ∧ e.name = nm :=
  ⟨List.mem_of_find?_eq_some h, of_decide_eq_true (List.find?_some (p := fun e : Ent => decide (e.name = nm)) h)⟩
theorem getE_none {es : List Ent} {nm : ByteArray} (h : getE es nm = none) : ∀ e ∈ es, e.name ≠ nm := by
  intro e he hx
  have := (List.find?_eq_none.1 h) e he
  simp [hx] at this
theorem getE_of {es : List Ent} {e : Ent} (hn : (names es).Nodup) (he : e ∈ es) : getE es e.name = some e := by
  induction es with
  | nil => cases he
  | cons a es ih =>
    unfold names at hn
    rw [List.map_cons, List.nodup_cons] at hn
    unfold getE
    rw [List.find?_cons]
    rcases List.mem_cons.1 he with rfl | h
    · simp
    · have : a.name ≠ e.name := fun hx => hn.1 (hx ▸ List.mem_map_of_mem h)
      simp [this]
      exact ih hn.2 h

/-- The map's block, or nil: it leads from these names to these blocks. -/
def MapIn (w : World) (mb : Option Nat) (es : List Ent) : Prop := (names es).Nodup ∧ match mb with
  | none => es = []
  | some m => ∃ l, w.ownsMap Try.prog 9 ptrElem m es.length (.map l) ∧ l.Perm (es.map pairOf)

theorem law_key : Keyed Try.prog 9 := Go.Maps.string_keyed Try.underlying9
theorem zero_file (w : World) : (zeroValue 66).run Try.prog w = .ok (.pointer none) w := by kernel_rfl

theorem MapIn.chg {S : Nat → Prop} {w w' : World} {mb : Option Nat} {es : List Ent} (h : MapIn w mb es) (hc : Chg S w w') (hn : ∀ m, mb = some m → ¬ S m) : MapIn w' mb es := by
  refine ⟨h.1, ?_⟩
  have h2 := h.2
  cases mb with
  | none => exact h2
  | some m =>
    obtain ⟨l, ⟨ees, clock, hb, r⟩, hp⟩ := h2
    exact ⟨l, ⟨ees, clock, hc.heap hb (hn m rfl), r⟩, hp⟩
theorem MapIn.lt {w : World} {m : Nat} {es : List Ent} (h : MapIn w (some m) es) : m < w.heap.size := by
  obtain ⟨_, l, ho, _⟩ := h
  exact ho.lt
/-- The same map of other entries with the same names and blocks. -/
theorem MapIn.same {w : World} {mb : Option Nat} {es es' : List Ent} (h : MapIn w mb es) (hp : es.map (fun e => (e.name, e.blk)) = es'.map (fun e => (e.name, e.blk))) : MapIn w mb es' := by
  have hn : names es = names es' := by
    have := congrArg (List.map Prod.fst) hp
    simpa [names, List.map_map, Function.comp_def] using this
  have hq : es.map pairOf = es'.map pairOf := by
    have e1 : pairOf = (fun p : ByteArray × Nat => ((Lit.string p.1.data.toList, DataW.lit (.int .i64 p.2)) : Lit × DataW Unit)) ∘ (fun e : Ent => (e.name, e.blk)) := rfl
    rw [e1, ← List.map_map, ← List.map_map, hp]
  have hl : es.length = es'.length := by have := congrArg List.length hp; simpa using this
  refine ⟨hn ▸ h.1, ?_⟩
  have h2 := h.2
  cases mb with
  | none =>
    have h2 : es = [] := h2
    subst h2
    simp at hl
    exact List.length_eq_zero_iff.1 hl.symm
  | some m =>
    obtain ⟨l, ho, hpm⟩ := h2
    exact ⟨l, hl ▸ ho, hq ▸ hpm⟩

theorem ownsMap_tight {w : World} {m n : Nat} {l : List (Lit × DataW Unit)} (h : w.ownsMap Try.prog 9 ptrElem m n (.map l)) : w.ownsMap Try.prog 9 ptrElem m l.length (.map l) := by
  obtain ⟨es, clock, hb, F, hs, hD⟩ := h
  refine ⟨es, clock, hb, F, ?_, hD⟩
  injection hD with hD
  rw [hD, length_sorted]
  simp

set_option maxRecDepth 100000 in
/-- 'm[name]'. -/
theorem MapIn.look {w : World} {mb : Option Nat} {es : List Ent} (h : MapIn w mb es) (nm : ByteArray) (hl : nm.size ≤ maxLen) :
    (Instr.lookup 54 (.map mb) (.string nm) false).run Try.prog w = .ok (.pointer ((getE es nm).map fun e => ⟨e.blk, 0, none⟩)) w := by
  have hkey : keyOf Try.prog 9 (.string nm) = some (.string nm.data.toList) := WideMaps.keyOf_string_mk Try.underlying9 hl
  have h2 := h.2
  cases mb with
  | none =>
    have h2 : es = [] := h2
    subst h2
    exact Maps.look_nil false law_key Try.underlying54 (zero_file w) hkey
  | some m =>
    obtain ⟨l, ⟨ees, clock, hb, F, hs, hD⟩, hp⟩ := h2
    have hD' := hD
    injection hD' with hD'
    rcases Maps.fit_look false law_key Try.underlying54 (zero_file w) hb F hkey with ⟨hrun, _, hat⟩ | ⟨e0, y, _, _, hrun, hRv, hat, _⟩
    · rw [← hD'] at hat
      have hg : getE es nm = none := by
        cases hq : getE es nm with
        | none => rfl
        | some e =>
          exfalso
          obtain ⟨hm, rfl⟩ := getE_mem hq
          have hml : pairOf e ∈ l := hp.mem_iff.2 (List.mem_map_of_mem hm)
          have h1 := hat .nil
          have h3 : l.find? (fun p => p.1.sameKey (.string e.name.data.toList)) = none ∨ ∃ p, l.find? (fun p => p.1.sameKey (.string e.name.data.toList)) = some p := by
            cases l.find? (fun p => p.1.sameKey (.string e.name.data.toList)) with
            | none => exact .inl rfl
            | some p => exact .inr ⟨p, rfl⟩
          rcases h3 with h3 | ⟨p, h3⟩
          · have := (List.find?_eq_none.1 h3) _ hml
            rw [key_same] at this
            simp at this
          · have h4 := List.mem_of_find?_eq_some h3
            obtain ⟨e', _, rfl⟩ := List.mem_map.1 (hp.mem_iff.1 h4)
            unfold DataW.atKey at h1
            simp only at h1
            rw [h3] at h1
            cases h1
      rw [hg]
      exact hrun
    · rw [← hD'] at hat
      obtain ⟨b, hv, rfl⟩ := ptrElem_inv hRv
      have h1 := hat .nil
      unfold DataW.atKey at h1
      simp only at h1
      cases h3 : l.find? (fun p => p.1.sameKey (.string nm.data.toList)) with
      | none => rw [h3] at h1; cases h1
      | some p =>
        rw [h3] at h1
        have h4 := List.mem_of_find?_eq_some h3
        have h5 : p.1.sameKey (.string nm.data.toList) = true := List.find?_some (p := fun p : Lit × DataW Unit => p.1.sameKey (.string nm.data.toList)) h3
        obtain ⟨e, he, rfl⟩ := List.mem_map.1 (hp.mem_iff.1 h4)
        rw [key_same] at h5
        obtain rfl := of_decide_eq_true h5
        rw [getE_of h.1 he]
        have h6 : (DataW.lit (.int .i64 (e.blk : Int)) : DataW Unit) = .lit (.int .i64 (b : Int)) := h1
        have h7 : e.blk = b := by injection h6 with h6; injection h6 with _ h6; omega
        rw [hrun, hv, ← h7]
        rfl

theorem filter_id {α : Type} {p : α → Bool} {l : List α} (h : ∀ x ∈ l, p x = true) : l.filter p = l := List.filter_eq_self.2 h
def without (es : List Ent) (nm : ByteArray) : List Ent := es.filter fun e => !decide (e.name = nm)
theorem names_without {es : List Ent} (h : (names es).Nodup) (nm : ByteArray) : (names (without es nm)).Nodup := by
  unfold names without
  exact (List.filter_sublist.map _).nodup h
theorem perm_without {l : List (Lit × DataW Unit)} {es : List Ent} (h : l.Perm (es.map pairOf)) (nm : ByteArray) : (l.filter fun p => !p.1.sameKey (.string nm.data.toList)).Perm ((without es nm).map pairOf) := by
  have h1 := h.filter (fun p => !p.1.sameKey (.string nm.data.toList))
  rw [List.filter_map] at h1
  have h2 : (fun p : Lit × DataW Unit => !p.1.sameKey (.string nm.data.toList)) ∘ pairOf = fun e => !decide (e.name = nm) := by
    funext e
    simp only [Function.comp]
    rw [key_same]
  rw [h2] at h1
  exact h1
theorem without_none {es : List Ent} {nm : ByteArray} (h : getE es nm = none) : without es nm = es := filter_id fun e he => by simp [getE_none h e he]

/-- 'm[name] = pointer', the name being none of the map's. -/
theorem MapIn.store {w : World} {m : Nat} {es : List Ent} (h : MapIn w (some m) es) (e : Ent) (hl : e.name.size ≤ maxLen) (hf : getE es e.name = none) (hn : es.length < maxLen) :
    ∃ w', (Instr.mapUpdate 54 (.map (some m)) (.string e.name) (pk e.blk)).run Try.prog w = .ok () w' ∧ MapIn w' (some m) (es ++ [e]) ∧ w.grownBy w' (some m) := by
  have hkey : keyOf Try.prog 9 (.string e.name) = some (.string e.name.data.toList) := WideMaps.keyOf_string_mk Try.underlying9 hl
  obtain ⟨hnd, l, ho, hp⟩ := h
  obtain ⟨w', hrun, ho', ht⟩ := ho.store law_key Try.underlying54 hn hkey (ptrElem_pk e.blk)
  refine ⟨w', hrun, ⟨?_, ?_⟩, ht.grown⟩
  · unfold names at hnd ⊢
    rw [List.map_append, List.nodup_append]
    refine ⟨hnd, by simp, ?_⟩
    intro a ha b hb hx
    obtain ⟨e', he', rfl⟩ := List.mem_map.1 ha
    simp at hb
    exact getE_none hf e' he' (hx.trans hb)
  · refine ⟨putKey (.string e.name.data.toList) (.lit (.int .i64 e.blk)) l, ?_, ?_⟩
    · rw [List.length_append]; exact ho'
    · refine (insert_perm _ _).trans ?_
      have h1 := perm_without hp e.name
      rw [without_none hf] at h1
      rw [List.map_append]
      exact (h1.cons (pairOf e)).trans (List.perm_append_comm (l₁ := [pairOf e]))

/-- 'delete(m, name)'. -/
theorem MapIn.drop {w : World} {mb : Option Nat} {es : List Ent} (h : MapIn w mb es) (nm : ByteArray) (hl : nm.size ≤ maxLen) (ty : TypeId) :
    ∃ w', (Builtin.delete_ #[54, 9] ty #[.map mb, .string nm]).run Try.prog w = .ok (.tuple #[]) w' ∧ MapIn w' mb (without es nm) ∧ w.grownBy w' mb := by
  have hkey : keyOf Try.prog 9 (.string nm) = some (.string nm.data.toList) := WideMaps.keyOf_string_mk Try.underlying9 hl
  obtain ⟨hnd, h2⟩ := h
  cases mb with
  | none =>
    have h2 : es = [] := h2
    subst h2
    exact ⟨w, Maps.drop_nil law_key Try.underlying54 hkey ty, ⟨hnd, rfl⟩, ⟨rfl, rfl, rfl, Nat.le_refl _, fun _ _ _ => rfl⟩⟩
  | some m =>
    obtain ⟨l, ho, hp⟩ := h2
    obtain ⟨w', hrun, ho', ht⟩ := ho.drop law_key Try.underlying54 hkey ty
    refine ⟨w', hrun, ⟨names_without hnd nm, _, ?_, perm_without hp nm⟩, ht.grown⟩
    have h3 := ownsMap_tight ho'
    rw [(perm_without hp nm).length_eq, List.length_map] at h3
    exact h3

/-- 'make(map[string]*file)'. -/
theorem MapIn.made (w : World) : MapIn (w.alloc (.map #[] 0)) (some w.heap.size) [] :=
  ⟨List.nodup_nil, [], World.ownsMap_made w _ _ _, List.Perm.refl _⟩

/-- A range over the map, under way: these were met, those are to come. -/
def RangeIn (w : World) (mb : Option Nat) (r : Nat) (es vis rem : List Ent) (cnt : Nat) : Prop := match mb with
  | none => rem = [] ∧ vis = [] ∧ es = [] ∧ ∀ ty, (Instr.next (.pointer (some ⟨r, 0, none⟩)) false ty).run Try.prog w = .ok (.tuple #[.bool false]) w
  | some m => (names es).Nodup ∧ (vis ++ rem).Perm es ∧ ∃ l left, w.ranges Try.prog 9 ptrElem m r es.length (.map l) left cnt ∧ l.Perm (es.map pairOf) ∧ ∀ nm : ByteArray, left (.string nm.data.toList) = rem.any fun e => decide (e.name = nm)

theorem RangeIn.kept {w w' : World} {m r : Nat} {es vis rem : List Ent} {cnt : Nat} (h : RangeIn w (some m) r es vis rem cnt) {S : Nat → Prop} (hc : Chg S w w') (h1 : ¬ S m) (h2 : ¬ S r) : RangeIn w' (some m) r es vis rem cnt := by
  obtain ⟨hn, hp, l, left, hr, hl, hf⟩ := h
  refine ⟨hn, hp, l, left, ?_, hl, hf⟩
  obtain ⟨es', clock, since, seen, c0, hb, F, hs, hD, hit, rest⟩ := hr
  exact ⟨es', clock, since, seen, c0, hc.heap hb h1, F, hs, hD, hc.heap hit h2, rest⟩
theorem RangeIn.done {w : World} {mb : Option Nat} {r : Nat} {es vis : List Ent} {cnt : Nat} (h : RangeIn w mb r es vis [] cnt) : vis.Perm es := by
  cases mb with
  | none => obtain ⟨_, rfl, rfl, _⟩ := h; exact List.Perm.refl _
  | some m => obtain ⟨_, hp, _⟩ := h; simpa using hp

end Go.Proofs.Ytcdoicndpecfiaa

namespace Go.Proofs.Ytcdoicndpecfiaa
open Go.RowKit Go.Deep
section
variable {w : World} {ops : Array Oper} {rest : List Oper} {o : Oper} {a : Act} {Q : Exit → Act → World → Prop}

theorem wpList_store_ent (hg : o.guard = none) (m x v : Operand) (hop : o.op = Op.mapUpdate 54 m x v) (mm : Nat) (es : List Ent) (nm : ByteArray) (b : Nat) (e : Ent)
    (hm : a.eval m = .map (some mm)) (hx : a.eval x = .string nm) (hv : a.eval v = .pointer (some ⟨b, 0, none⟩)) (he1 : e.name = nm) (he2 : e.blk = b) (h : MapIn w (some mm) es) (hl : nm.size ≤ maxLen) (hf : getE es nm = none) (hn : es.length < maxLen)
    (hK : ∀ w', MapIn w' (some mm) (es ++ [e]) → w.grownBy w' (some mm) → wpList Try.prog ops Q rest (a.put o.dst undef) w') : wpList Try.prog ops Q (o :: rest) a w := by
  subst he1
  subst he2
  refine wpList_plain hg fun K' hK' => ?_
  obtain ⟨w', hrun, r1, r2⟩ := h.store e hl hf hn
  unfold pk at hrun
  unfold Oper.wp
  simp [execOp, hop, hm, hx, hv, hrun, Result.andThen]
  exact hK' _ _ (hK w' r1 r2)

theorem wpList_drop_ent (hg : o.guard = none) (m x : Operand) (hop : o.op = Op.call { callee := Callee.builtin Builtin.delete, args := #[m, x], argTypes := #[54, 9] }) (mb : Option Nat) (es : List Ent) (nm : ByteArray)
    (hm : a.eval m = .map mb) (hx : a.eval x = .string nm) (h : MapIn w mb es) (hl : nm.size ≤ maxLen)
    (hK : ∀ w', MapIn w' mb (without es nm) → w.grownBy w' mb → wpList Try.prog ops Q rest (a.put o.dst (.tuple #[])) w') : wpList Try.prog ops Q (o :: rest) a w := by
  refine wpList_plain hg fun K' hK' => ?_
  obtain ⟨w', hrun, r1, r2⟩ := h.drop nm hl o.type
  unfold Oper.wp
  simp [execOp, hop, resolve, invoke, builtin, hm, hx, hrun, Result.andThen]
  exact hK' _ _ (hK w' r1 r2)

end
end Go.Proofs.Ytcdoicndpecfiaa

