/- A part. -/
import Derived.Test.YtldkapjeheiiaaaGreatDoorEno16
set_option linter.unusedVariables false
set_option linter.unusedSimpArgs false
namespace Go.Proofs.YtldkapjeheiiaaaGreatDoor
open Go.RowKit Go.Deep Go.ChangeMaps Go.WideShapes
open Go.Maps (Keyed)
def pk (b : Nat) : Value := .pointer (some ⟨b, 0, none⟩)
def ptrElem : Value → Option (DataW Unit × List MemPlace)
  | .pointer (some ⟨b, 0, none⟩) => some (.lit (.int .i64 b), [])
  | _ => none
theorem ptrElem_inv {v : Value} {y : DataW Unit × List MemPlace} (h : ptrElem v = some y) : ∃ b : Nat, v = pk b ∧ y = (.lit (.int .i64 b), []) := by
  unfold ptrElem at h
  split at h
  · cases h; exact ⟨_, rfl, rfl⟩
  · cases h
theorem ptrElem_pk (b : Nat) : ptrElem (pk b) = some (.lit (.int .i64 b), []) := rfl
def pairOf (e : Ent) : Lit × DataW Unit := (.string e.name.data.toList, .lit (.int .i64 e.blk))
theorem name_eq {a b : ByteArray} (h : a.data.toList = b.data.toList) : a = b := ByteArray.ext (Array.toList_inj.1 h)
theorem key_same (e : Ent) (nm : ByteArray) : (pairOf e).1.sameKey (.string nm.data.toList) = decide (e.name = nm) := by
  rw [Bool.eq_iff_iff]
  constructor
  · intro h
    have h' : (Lit.string e.name.data.toList) = .string nm.data.toList := WideAt.sameKey_eq h
    exact decide_eq_true (name_eq (by simpa using h'))
  · intro h
    obtain rfl := of_decide_eq_true h
    exact WideAt.sameKey_self trivial
def names (es : List Ent) : List ByteArray := es.map (·.name)
def getE (es : List Ent) (nm : ByteArray) : Option Ent := es.find? fun e => decide (e.name = nm)
theorem getE_mem {es : List Ent} {nm : ByteArray} {e : Ent} (h : getE es nm = some e) : e ∈ es ∧ e.name = nm :=
  ⟨List.mem_of_find?_eq_some h, of_decide_eq_true (List.find?_some (p := fun e : Ent => decide (e.name = nm)) h)⟩
theorem getE_none {es : List Ent} {nm : ByteArray} (h : getE es nm = none) : ∀ e ∈ es, e.name ≠ nm := by
  intro e he hx
  have := (List.find?_eq_none.1 h) e he
  simp [hx] at this
theorem getE_of {es : List Ent} {e : Ent} (hn : (names es).Nodup) (he : e ∈ es) : getE es e.name = some e := by
  induction es with
  | nil => cases he
  | cons a es ih =>
    unfold names at hn
    rw [List.map_cons, List.nodup_cons] at hn
    unfold getE
    rw [List.find?_cons]
    rcases List.mem_cons.1 he with rfl | h
    · simp
    · have : a.name ≠ e.name := fun hx => hn.1 (hx ▸ List.mem_map_of_mem h)
      simp [this]
      exact ih hn.2 h
def MapIn (w : World) (mb : Option Nat) (es : List Ent) : Prop := (names es).Nodup ∧ match mb with
  | none => es = []
  | some m => ∃ l, w.ownsMap Tryz.prog 9 ptrElem m es.length (.map l) ∧ l.Perm (es.map pairOf)
theorem law_key : Keyed Tryz.prog 9 := Go.Maps.string_keyed Tryz.underlying9
theorem zero_file (w : World) : (zeroValue 166).run Tryz.prog w = .ok (.pointer none) w := by kernel_rfl
theorem MapIn.chg {S : Nat → Prop} {w w' : World} {mb : Option Nat} {es : List Ent} (h : MapIn w mb es) (hc : Chg S w w') (hn : ∀ m, mb = some m → ¬ S m) : MapIn w' mb es := by
  refine ⟨h.1, ?_⟩
  have h2 := h.2
  cases mb with
  | none => exact h2
  | some m =>
    obtain ⟨l, ⟨ees, clock, hb, r⟩, hp⟩ := h2
    exact ⟨l, ⟨ees, clock, hc.heap hb (hn m rfl), r⟩, hp⟩
theorem MapIn.lt {w : World} {m : Nat} {es : List Ent} (h : MapIn w (some m) es) : m < w.heap.size := by
  obtain ⟨_, l, ho, _⟩ := h
  exact ho.lt
theorem MapIn.same {w : World} {mb : Option Nat} {es es' : List Ent} (h : MapIn w mb es) (hp : es.map (fun e => (e.name, e.blk)) = es'.map (fun e => (e.name, e.blk))) : MapIn w mb es' := by
  have hn : names es = names es' := by
    have := congrArg (List.map Prod.fst) hp
    simpa [names, List.map_map, Function.comp_def] using this
  have hq : es.map pairOf = es'.map pairOf := by
    have e1 : pairOf = (fun p : ByteArray × Nat => ((Lit.string p.1.data.toList, DataW.lit (.int .i64 p.2)) : Lit × DataW Unit)) ∘ (fun e : Ent => (e.name, e.blk)) := rfl
    rw [e1, ← List.map_map, ← List.map_map, hp]
  have hl : es.length = es'.length := by have := congrArg List.length hp; simpa using this
  refine ⟨hn ▸ h.1, ?_⟩
  have h2 := h.2
  cases mb with
  | none =>
    have h2 : es = [] := h2
    subst h2
    simp at hl
    exact List.length_eq_zero_iff.1 hl.symm
  | some m =>
    obtain ⟨l, ho, hpm⟩ := h2
    exact ⟨l, hl ▸ ho, hq ▸ hpm⟩
theorem ownsMap_tight {w : World} {m n : Nat} {l : List (Lit × DataW Unit)} (h : w.ownsMap Tryz.prog 9 ptrElem m n (.map l)) : w.ownsMap Tryz.prog 9 ptrElem m l.length (.map l) := by
  obtain ⟨es, clock, hb, F, hs, hD⟩ := h
  refine ⟨es, clock, hb, F, ?_, hD⟩
  injection hD with hD
  rw [hD, length_sorted]
  simp
set_option maxRecDepth 100000 in
theorem MapIn.look {w : World} {mb : Option Nat} {es : List Ent} (h : MapIn w mb es) (nm : ByteArray) (hl : nm.size ≤ maxLen) :
    (Instr.lookup 113 (.map mb) (.string nm) false).run Tryz.prog w = .ok (.pointer ((getE es nm).map fun e => ⟨e.blk, 0, none⟩)) w := by
  have hkey : keyOf Tryz.prog 9 (.string nm) = some (.string nm.data.toList) := WideMaps.keyOf_string_mk Tryz.underlying9 hl
  have h2 := h.2
  cases mb with
  | none =>
    have h2 : es = [] := h2
    subst h2
    exact Maps.look_nil false law_key Tryz.underlying113 (zero_file w) hkey
  | some m =>
    obtain ⟨l, ⟨ees, clock, hb, F, hs, hD⟩, hp⟩ := h2
    have hD' := hD
    injection hD' with hD'
    rcases Maps.fit_look false law_key Tryz.underlying113 (zero_file w) hb F hkey with ⟨hrun, _, hat⟩ | ⟨e0, y, _, _, hrun, hRv, hat, _⟩
    · rw [← hD'] at hat
      have hg : getE es nm = none := by
        cases hq : getE es nm with
        | none => rfl
        | some e =>
          exfalso
          obtain ⟨hm, rfl⟩ := getE_mem hq
          have hml : pairOf e ∈ l := hp.mem_iff.2 (List.mem_map_of_mem hm)
          have h1 := hat .nil
          have h3 : l.find? (fun p => p.1.sameKey (.string e.name.data.toList)) = none ∨ ∃ p, l.find? (fun p => p.1.sameKey (.string e.name.data.toList)) = some p := by
            cases l.find? (fun p => p.1.sameKey (.string e.name.data.toList)) with
            | none => exact .inl rfl
            | some p => exact .inr ⟨p, rfl⟩
          rcases h3 with h3 | ⟨p, h3⟩
          · have := (List.find?_eq_none.1 h3) _ hml
            rw [key_same] at this
            simp at this
          · have h4 := List.mem_of_find?_eq_some h3
            obtain ⟨e', _, rfl⟩ := List.mem_map.1 (hp.mem_iff.1 h4)
            unfold DataW.atKey at h1
            simp only at h1
            rw [h3] at h1
            cases h1
      rw [hg]
      exact hrun
    · rw [← hD'] at hat
      obtain ⟨b, hv, rfl⟩ := ptrElem_inv hRv
      have h1 := hat .nil
      unfold DataW.atKey at h1
      simp only at h1
      cases h3 : l.find? (fun p => p.1.sameKey (.string nm.data.toList)) with
      | none => rw [h3] at h1; cases h1
      | some p =>
        rw [h3] at h1
        have h4 := List.mem_of_find?_eq_some h3
        have h5 : p.1.sameKey (.string nm.data.toList) = true := List.find?_some (p := fun p : Lit × DataW Unit => p.1.sameKey (.string nm.data.toList)) h3
        obtain ⟨e, he, rfl⟩ := List.mem_map.1 (hp.mem_iff.1 h4)
        rw [key_same] at h5
        obtain rfl := of_decide_eq_true h5
        rw [getE_of h.1 he]
        have h6 : (DataW.lit (.int .i64 (e.blk : Int)) : DataW Unit) = .lit (.int .i64 (b : Int)) := h1
        have h7 : e.blk = b := by injection h6 with h6; injection h6 with _ h6; omega
        rw [hrun, hv, ← h7]
        rfl
theorem filter_id {α : Type} {p : α → Bool} {l : List α} (h : ∀ x ∈ l, p x = true) : l.filter p = l := List.filter_eq_self.2 h
def without (es : List Ent) (nm : ByteArray) : List Ent := es.filter fun e => !decide (e.name = nm)
theorem names_without {es : List Ent} (h : (names es).Nodup) (nm : ByteArray) : (names (without es nm)).Nodup := by
  unfold names without
  exact (List.filter_sublist.map _).nodup h
theorem perm_without {l : List (Lit × DataW Unit)} {es : List Ent} (h : l.Perm (es.map pairOf)) (nm : ByteArray) : (l.filter fun p => !p.1.sameKey (.string nm.data.toList)).Perm ((without es nm).map pairOf) := by
  have h1 := h.filter (fun p => !p.1.sameKey (.string nm.data.toList))
  rw [List.filter_map] at h1
  have h2 : (fun p : Lit × DataW Unit => !p.1.sameKey (.string nm.data.toList)) ∘ pairOf = fun e => !decide (e.name = nm) := by
    funext e
    simp only [Function.comp]
    rw [key_same]
  rw [h2] at h1
  exact h1
theorem without_none {es : List Ent} {nm : ByteArray} (h : getE es nm = none) : without es nm = es := filter_id fun e he => by simp [getE_none h e he]
theorem MapIn.store {w : World} {m : Nat} {es : List Ent} (h : MapIn w (some m) es) (e : Ent) (hl : e.name.size ≤ maxLen) (hf : getE es e.name = none) (hn : es.length < maxLen) :
    ∃ w', (Instr.mapUpdate 113 (.map (some m)) (.string e.name) (pk e.blk)).run Tryz.prog w = .ok () w' ∧ MapIn w' (some m) (es ++ [e]) ∧ w.grownBy w' (some m) := by
  have hkey : keyOf Tryz.prog 9 (.string e.name) = some (.string e.name.data.toList) := WideMaps.keyOf_string_mk Tryz.underlying9 hl
  obtain ⟨hnd, l, ho, hp⟩ := h
  obtain ⟨w', hrun, ho', ht⟩ := ho.store law_key Tryz.underlying113 hn hkey (ptrElem_pk e.blk)
  refine ⟨w', hrun, ⟨?_, ?_⟩, ht.grown⟩
  · unfold names at hnd ⊢
    rw [List.map_append, List.nodup_append]
    refine ⟨hnd, by simp, ?_⟩
    intro a ha b hb hx
    obtain ⟨e', he', rfl⟩ := List.mem_map.1 ha
    simp at hb
    exact getE_none hf e' he' (hx.trans hb)
  · refine ⟨putKey (.string e.name.data.toList) (.lit (.int .i64 e.blk)) l, ?_, ?_⟩
    · rw [List.length_append]; exact ho'
    · refine (insert_perm _ _).trans ?_
      have h1 := perm_without hp e.name
      rw [without_none hf] at h1
      rw [List.map_append]
      exact (h1.cons (pairOf e)).trans (List.perm_append_comm (l₁ := [pairOf e]))
theorem MapIn.drop {w : World} {mb : Option Nat} {es : List Ent} (h : MapIn w mb es) (nm : ByteArray) (hl : nm.size ≤ maxLen) (ty : TypeId) :
    ∃ w', (Builtin.delete_ #[113, 9] ty #[.map mb, .string nm]).run Tryz.prog w = .ok (.tuple #[]) w' ∧ MapIn w' mb (without es nm) ∧ w.grownBy w' mb := by
  have hkey : keyOf Tryz.prog 9 (.string nm) = some (.string nm.data.toList) := WideMaps.keyOf_string_mk Tryz.underlying9 hl
  obtain ⟨hnd, h2⟩ := h
  cases mb with
  | none =>
    have h2 : es = [] := h2
    subst h2
    exact ⟨w, Maps.drop_nil law_key Tryz.underlying113 hkey ty, ⟨hnd, rfl⟩, ⟨rfl, rfl, rfl, Nat.le_refl _, fun _ _ _ => rfl⟩⟩
  | some m =>
    obtain ⟨l, ho, hp⟩ := h2
    obtain ⟨w', hrun, ho', ht⟩ := ho.drop law_key Tryz.underlying113 hkey ty
    refine ⟨w', hrun, ⟨names_without hnd nm, _, ?_, perm_without hp nm⟩, ht.grown⟩
    have h3 := ownsMap_tight ho'
    rw [(perm_without hp nm).length_eq, List.length_map] at h3
    exact h3
theorem MapIn.made (w : World) : MapIn (w.alloc (.map #[] 0)) (some w.heap.size) [] :=
  ⟨List.nodup_nil, [], World.ownsMap_made w _ _ _, List.Perm.refl _⟩
def RangeIn (w : World) (mb : Option Nat) (r : Nat) (es vis rem : List Ent) (cnt : Nat) : Prop := match mb with
  | none => rem = [] ∧ vis = [] ∧ es = [] ∧ ∀ ty, (Instr.next (.pointer (some ⟨r, 0, none⟩)) false ty).run Tryz.prog w = .ok (.tuple #[.bool false]) w
  | some m => (names es).Nodup ∧ (vis ++ rem).Perm es ∧ ∃ l left, w.ranges Tryz.prog 9 ptrElem m r es.length (.map l) left cnt ∧ l.Perm (es.map pairOf) ∧ ∀ nm : ByteArray, left (.string nm.data.toList) = rem.any fun e => decide (e.name = nm)
theorem RangeIn.kept {w w' : World} {m r : Nat} {es vis rem : List Ent} {cnt : Nat} (h : RangeIn w (some m) r es vis rem cnt) {S : Nat → Prop} (hc : Chg S w w') (h1 : ¬ S m) (h2 : ¬ S r) : RangeIn w' (some m) r es vis rem cnt := by
  obtain ⟨hn, hp, l, left, hr, hl, hf⟩ := h
  refine ⟨hn, hp, l, left, ?_, hl, hf⟩
  obtain ⟨es', clock, since, seen, c0, hb, F, hs, hD, hit, rest⟩ := hr
  exact ⟨es', clock, since, seen, c0, hc.heap hb h1, F, hs, hD, hc.heap hit h2, rest⟩
theorem RangeIn.done {w : World} {mb : Option Nat} {r : Nat} {es vis : List Ent} {cnt : Nat} (h : RangeIn w mb r es vis [] cnt) : vis.Perm es := by
  cases mb with
  | none => obtain ⟨_, rfl, rfl, _⟩ := h; exact List.Perm.refl _
  | some m => obtain ⟨_, hp, _⟩ := h; simpa using hp
set_option maxRecDepth 100000 in
theorem range_start {w : World} {mb : Option Nat} {es : List Ent} (h : MapIn w mb es) :
    ∃ w' cnt, (Instr.range 113 (.map mb)).run Tryz.prog w = .ok (.pointer (some ⟨w.heap.size, 0, none⟩)) w' ∧ RangeIn w' mb w.heap.size es [] es cnt ∧ w.grownBy w' none ∧ w'.heap.size = w.heap.size + 1 := by
  obtain ⟨hnd, h2⟩ := h
  cases mb with
  | none =>
    have h2 : es = [] := h2
    subst h2
    exact ⟨_, 0, run_range_nilMap w _ _ _ Tryz.underlying113, ⟨rfl, rfl, rfl, fun ty => run_next_nilMap w ty 0 0 #[]⟩, World.grownBy_alloc _ _ _, by simp⟩
  | some m =>
    obtain ⟨l, ho, hp⟩ := h2
    obtain ⟨w', hrun, hr, hg, hs⟩ := ho.range law_key Tryz.underlying113
    refine ⟨w', _, hrun, ⟨hnd, List.Perm.refl _, l, _, hr, hp, fun nm => ?_⟩, hg, hs⟩
    rw [Maps.has_eq, hp.any_eq, List.any_map]
    congr 1
    funext e
    exact key_same e nm
set_option maxRecDepth 100000 in
theorem range_next {w : World} {mb : Option Nat} {r : Nat} {es vis rem : List Ent} {cnt : Nat} (h : RangeIn w mb r es vis rem cnt) (ty : TypeId) :
    (rem = [] ∧ (Instr.next (.pointer (some ⟨r, 0, none⟩)) false ty).run Tryz.prog w = .ok (.tuple #[.bool false]) w) ∨
    ∃ e r1 r2 w' cnt', rem = r1 ++ e :: r2 ∧ mb ≠ none ∧ (Instr.next (.pointer (some ⟨r, 0, none⟩)) false ty).run Tryz.prog w = .ok (.tuple #[.bool true, .string e.name, pk e.blk]) w' ∧ RangeIn w' mb r es (vis ++ [e]) (r1 ++ r2) cnt' ∧ cnt' < cnt ∧ w.grownBy w' (some r) ∧ w'.heap.size = w.heap.size ∧
      (Instr.entry (.pointer (some ⟨r, 0, none⟩))).run Tryz.prog w' = .ok (.tuple #[.string e.name, pk e.blk]) w' := by
  cases mb with
  | none =>
    obtain ⟨h1, _, _, h2⟩ := h
    exact .inl ⟨h1, h2 ty⟩
  | some m =>
    obtain ⟨hnd, hp, l, left, hr, hl, hf⟩ := h
    rcases hr.next law_key ty with ⟨_, hlf, hrun⟩ | ⟨key, v, kl, y, w', cnt', hkey, hlk, hv, hat, hrun, hrg, hlt, hgr, hsz, hen⟩
    · refine .inl ⟨?_, hrun⟩
      cases rem with
      | nil => rfl
      | cons e rem =>
        have h1 := hf e.name
        rw [hlf] at h1
        simp at h1
    · right
      obtain ⟨s, rfl, hs⟩ : ∃ s : ByteArray, key = .string s ∧ kl = .string s.data.toList := by
        rw [keyOf_string Tryz.underlying9] at hkey
        cases key <;> simp [mapKey, Tryz.underlying9] at hkey
        exact ⟨_, rfl, hkey.2.symm⟩
      subst hs
      obtain ⟨b, rfl, rfl⟩ := ptrElem_inv hv
      rw [hf s] at hlk
      obtain ⟨e, he, hen'⟩ := List.any_eq_true.1 hlk
      obtain rfl := of_decide_eq_true hen'
      have hes : e ∈ es := hp.mem_iff.1 (List.mem_append_right _ he)
      have hb : b = e.blk := by
        have h1 := hat .nil
        unfold DataW.atKey at h1
        simp only at h1
        cases h3 : l.find? (fun p => p.1.sameKey (.string e.name.data.toList)) with
        | none => rw [h3] at h1; cases h1
        | some p =>
          rw [h3] at h1
          have h4 := List.mem_of_find?_eq_some h3
          have h5 : p.1.sameKey (.string e.name.data.toList) = true := List.find?_some (p := fun p : Lit × DataW Unit => p.1.sameKey (.string e.name.data.toList)) h3
          obtain ⟨e', he', rfl⟩ := List.mem_map.1 (hl.mem_iff.1 h4)
          rw [key_same] at h5
          have h6 := of_decide_eq_true h5
          have h7 := getE_of hnd he'
          rw [h6, getE_of hnd hes] at h7
          injection h7 with h7
          subst h7
          have h8 : (DataW.lit (.int .i64 (e.blk : Int)) : DataW Unit) = .lit (.int .i64 (b : Int)) := h1
          injection h8 with h8
          injection h8 with _ h8
          omega
      subst hb
      obtain ⟨r1, r2, rfl⟩ := List.append_of_mem he
      refine ⟨e, r1, r2, w', cnt', rfl, by simp, hrun, ⟨hnd, ?_, l, _, hrg, hl, fun nm => ?_⟩, hlt, hgr, hsz, hen⟩
      · refine List.Perm.trans ?_ hp
        rw [List.append_assoc]
        refine List.Perm.append_left vis ?_
        exact (List.perm_middle (a := e) (l₁ := r1) (l₂ := r2)).symm
      · have hrn : (names (r1 ++ e :: r2)).Nodup := by
          have h1 : (names (vis ++ (r1 ++ e :: r2))).Nodup := ((hp.map (fun e : Ent => e.name)).nodup_iff).2 (show (es.map (fun e : Ent => e.name)).Nodup from hnd)
          unfold names at h1 ⊢
          rw [List.map_append, List.nodup_append] at h1
          exact h1.2.1
        show (left (.string nm.data.toList) && !(Lit.string nm.data.toList).sameKey (.string e.name.data.toList)) = _
        rw [hf nm]
        have hk : (Lit.string nm.data.toList).sameKey (.string e.name.data.toList) = decide (nm = e.name) := by
          rw [Bool.eq_iff_iff]
          constructor
          · intro h
            have h' : (Lit.string nm.data.toList) = .string e.name.data.toList := WideAt.sameKey_eq h
            exact decide_eq_true (name_eq (by simpa using h'))
          · intro h
            obtain rfl := of_decide_eq_true h
            exact WideAt.sameKey_self trivial
        rw [hk]
        by_cases hx : nm = e.name
        · subst hx
          simp only [decide_true, Bool.not_true, Bool.and_false]
          symm
          rw [List.any_eq_false]
          intro x hx
          unfold names at hrn
          rw [List.map_append, List.map_cons, List.nodup_append] at hrn
          obtain ⟨_, h2, h3⟩ := hrn
          rw [List.nodup_cons] at h2
          simp only [decide_eq_true_eq]
          intro hn
          rcases List.mem_append.1 hx with h | h
          · exact h3 _ (List.mem_map_of_mem h) _ (List.mem_cons_self ..) hn
          · exact h2.1 (hn ▸ List.mem_map_of_mem h)
        · simp only [hx, decide_false, Bool.not_false, Bool.and_true]
          rw [List.any_append, List.any_append, List.any_cons]
          have : decide (e.name = nm) = false := by simp [Ne.symm hx]
          rw [this, Bool.false_or]
end Go.Proofs.YtldkapjeheiiaaaGreatDoor
namespace Go.Proofs.YtldkapjeheiiaaaGreatDoor
open Go.RowKit Go.Deep
section
variable {w : World} {ops : Array Oper} {rest : List Oper} {o : Oper} {a : Act} {Q : Exit → Act → World → Prop}
theorem wpList_store_ent (hg : o.guard = none) (m x v : Operand) (hop : o.op = Op.mapUpdate 113 m x v) (mm : Nat) (es : List Ent) (nm : ByteArray) (b : Nat) (e : Ent)
    (hm : a.eval m = .map (some mm)) (hx : a.eval x = .string nm) (hv : a.eval v = .pointer (some ⟨b, 0, none⟩)) (he1 : e.name = nm) (he2 : e.blk = b) (h : MapIn w (some mm) es) (hl : nm.size ≤ maxLen) (hf : getE es nm = none) (hn : es.length < maxLen)
    (hK : ∀ w', MapIn w' (some mm) (es ++ [e]) → w.grownBy w' (some mm) → wpList Tryz.prog ops Q rest (a.put o.dst undef) w') : wpList Tryz.prog ops Q (o :: rest) a w := by
  subst he1
  subst he2
  refine wpList_plain hg fun K' hK' => ?_
  obtain ⟨w', hrun, r1, r2⟩ := h.store e hl hf hn
  unfold pk at hrun
  unfold Oper.wp
  simp [execOp, hop, hm, hx, hv, hrun, Result.andThen]
  exact hK' _ _ (hK w' r1 r2)
theorem wpList_drop_ent (hg : o.guard = none) (m x : Operand) (hop : o.op = Op.call { callee := Callee.builtin Builtin.delete, args := #[m, x], argTypes := #[113, 9] }) (mb : Option Nat) (es : List Ent) (nm : ByteArray)
    (hm : a.eval m = .map mb) (hx : a.eval x = .string nm) (h : MapIn w mb es) (hl : nm.size ≤ maxLen)
    (hK : ∀ w', MapIn w' mb (without es nm) → w.grownBy w' mb → wpList Tryz.prog ops Q rest (a.put o.dst (.tuple #[])) w') : wpList Tryz.prog ops Q (o :: rest) a w := by
  refine wpList_plain hg fun K' hK' => ?_
  obtain ⟨w', hrun, r1, r2⟩ := h.drop nm hl o.type
  unfold Oper.wp
  simp [execOp, hop, resolve, invoke, builtin, hm, hx, hrun, Result.andThen]
  exact hK' _ _ (hK w' r1 r2)
theorem wpList_range_ents (hg : o.guard = none) (m : Operand) (hop : o.op = Op.range 113 m) (mb : Option Nat) (es : List Ent)
    (hm : a.eval m = .map mb) (h : MapIn w mb es)
    (hK : ∀ w' cnt, RangeIn w' mb w.heap.size es [] es cnt → w.grownBy w' none → w'.heap.size = w.heap.size + 1 → wpList Tryz.prog ops Q rest (a.put o.dst (.pointer (some ⟨w.heap.size, 0, none⟩))) w') : wpList Tryz.prog ops Q (o :: rest) a w := by
  refine wpList_plain hg fun K' hK' => ?_
  obtain ⟨w', cnt, hrun, r1, r2, r3⟩ := range_start h
  unfold Oper.wp
  simp [execOp, hop, hm, hrun, Result.andThen]
  exact hK' _ _ (hK w' cnt r1 r2 r3)
theorem wpList_next_ents (hg : o.guard = none) (it : Operand) (hop : o.op = Op.next it false) (mb : Option Nat) (r : Nat) (es vis rem : List Ent) (cnt : Nat)
    (hit : a.eval it = .pointer (some ⟨r, 0, none⟩)) (h : RangeIn w mb r es vis rem cnt)
    (hDone : rem = [] → wpList Tryz.prog ops Q rest (a.put o.dst (.tuple #[.bool false])) w)
    (hMore : ∀ e r1 r2 w' cnt', rem = r1 ++ e :: r2 → mb ≠ none → RangeIn w' mb r es (vis ++ [e]) (r1 ++ r2) cnt' → cnt' < cnt → w.grownBy w' (some r) → w'.heap.size = w.heap.size →
      (Instr.entry (.pointer (some ⟨r, 0, none⟩))).run Tryz.prog w' = .ok (.tuple #[.string e.name, .pointer (some ⟨e.blk, 0, none⟩)]) w' → wpList Tryz.prog ops Q rest (a.put o.dst (.tuple #[.bool true, .string e.name, .pointer (some ⟨e.blk, 0, none⟩)])) w') : wpList Tryz.prog ops Q (o :: rest) a w := by
  refine wpList_plain hg fun K' hK' => ?_
  unfold Oper.wp
  rcases range_next h o.type with ⟨h0, hrun⟩ | ⟨e, r1, r2, w', cnt', hr, hmb, hrun, hri, hlt, hgr, hsz, hen⟩
  · simp [execOp, hop, hit, hrun, Result.andThen]
    exact hK' _ _ (hDone h0)
  · unfold pk at hrun hen
    simp [execOp, hop, hit, hrun, Result.andThen]
    exact hK' _ _ (hMore e r1 r2 w' cnt' hr hmb hri hlt hgr hsz hen)
end
end Go.Proofs.YtldkapjeheiiaaaGreatDoor
