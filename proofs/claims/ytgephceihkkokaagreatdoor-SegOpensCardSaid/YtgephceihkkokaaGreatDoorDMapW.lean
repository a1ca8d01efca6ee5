/-
  The laws on the disk's map, at the operations.
-/
import Derived.Test.YtgephceihkkokaaGreatDoorDMap
namespace Go.Proofs.YtgephceihkkokaaGreatDoor
open Go.RowKit Go.Deep
section
variable {w : World} {ops : Array Oper} {rest : List Oper} {o : Oper} {a : Act} {Q : Exit → Act → World → Prop}

theorem wpList_store_ent (hg : o.guard = none) (m x v : Operand) (hop : o.op = Op.mapUpdate 68 m x v) (mm : Nat) (es : List Ent) (nm : ByteArray) (b : Nat) (e : Ent)
    (hm : a.eval m = .map (some mm)) (hx : a.eval x = .string nm) (hv : a.eval v = .pointer (some ⟨b, 0, none⟩)) (he1 : e.name = nm) (he2 : e.blk = b) (h : MapIn w (some mm) es) (hl : nm.size ≤ maxLen) (hf : getE es nm = none) (hn : es.length < maxLen)
    (hK : ∀ w', MapIn w' (some mm) (es ++ [e]) → w.grownBy w' (some mm) → wpList Tryz.prog ops Q rest (a.put o.dst undef) w') : wpList Tryz.prog ops Q (o :: rest) a w := by
  subst he1
  subst he2
  refine wpList_plain hg fun K' hK' => ?_
  obtain ⟨w', hrun, r1, r2⟩ := h.store e hl hf hn
  unfold pk at hrun
  unfold Oper.wp
  simp [execOp, hop, hm, hx, hv, hrun, Result.andThen]
  exact hK' _ _ (hK w' r1 r2)

theorem wpList_drop_ent (hg : o.guard = none) (m x : Operand) (hop : o.op = Op.call { callee := Callee.builtin Builtin.delete, args := #[m, x], argTypes := #[68, 9] }) (mb : Option Nat) (es : List Ent) (nm : ByteArray)
    (hm : a.eval m = .map mb) (hx : a.eval x = .string nm) (h : MapIn w mb es) (hl : nm.size ≤ maxLen)
    (hK : ∀ w', MapIn w' mb (without es nm) → w.grownBy w' mb → wpList Tryz.prog ops Q rest (a.put o.dst (.tuple #[])) w') : wpList Tryz.prog ops Q (o :: rest) a w := by
  refine wpList_plain hg fun K' hK' => ?_
  obtain ⟨w', hrun, r1, r2⟩ := h.drop nm hl o.type
  unfold Oper.wp
  simp [execOp, hop, resolve, invoke, builtin, hm, hx, hrun, Result.andThen]
  exact hK' _ _ (hK w' r1 r2)

theorem wpList_range_ents (hg : o.guard = none) (m : Operand) (hop : o.op = Op.range 68 m) (mb : Option Nat) (es : List Ent)
    (hm : a.eval m = .map mb) (h : MapIn w mb es)
    (hK : ∀ w' cnt, RangeIn w' mb w.heap.size es [] es cnt → w.grownBy w' none → w'.heap.size = w.heap.size + 1 → wpList Tryz.prog ops Q rest (a.put o.dst (.pointer (some ⟨w.heap.size, 0, none⟩))) w') : wpList Tryz.prog ops Q (o :: rest) a w := by
  refine wpList_plain hg fun K' hK' => ?_
  obtain ⟨w', cnt, hrun, r1, r2, r3⟩ := range_start h
  unfold Oper.wp
  simp [execOp, hop, hm, hrun, Result.andThen]
  exact hK' _ _ (hK w' cnt r1 r2 r3)

theorem wpList_next_ents (hg : o.guard = none) (it : Operand) (hop : o.op = Op.next it false) (mb : Option Nat) (r : Nat) (es vis rem : List Ent) (cnt : Nat)
    (hit : a.eval it = .pointer (some ⟨r, 0, none⟩)) (h : RangeIn w mb r es vis rem cnt)
    (hDone : rem = [] → wpList Tryz.prog ops Q rest (a.put o.dst (.tuple #[.bool false])) w)
    (hMore : ∀ e r1 r2 w' cnt', rem = r1 ++ e :: r2 → mb ≠ none → RangeIn w' mb r es (vis ++ [e]) (r1 ++ r2) cnt' → cnt' < cnt → w.grownBy w' (some r) → w'.heap.size = w.heap.size →
      (Instr.entry (.pointer (some ⟨r, 0, none⟩))).run Tryz.prog w' = .ok (.tuple #[.string e.name, .pointer (some ⟨e.blk, 0, none⟩)]) w' → wpList Tryz.prog ops Q rest (a.put o.dst (.tuple #[.bool true, .string e.name, .pointer (some ⟨e.blk, 0, none⟩)])) w') : wpList Tryz.prog ops Q (o :: rest) a w := by
  refine wpList_plain hg fun K' hK' => ?_
  unfold Oper.wp
  rcases range_next h o.type with ⟨h0, hrun⟩ | ⟨e, r1, r2, w', cnt', hr, hmb, hrun, hri, hlt, hgr, hsz, hen⟩
  · simp [execOp, hop, hit, hrun, Result.andThen]
    exact hK' _ _ (hDone h0)
  · unfold pk at hrun hen
    simp [execOp, hop, hit, hrun, Result.andThen]
    exact hK' _ _ (hMore e r1 r2 w' cnt' hr hmb hri hlt hgr hsz hen)
end
end Go.Proofs.YtgephceihkkokaaGreatDoor
