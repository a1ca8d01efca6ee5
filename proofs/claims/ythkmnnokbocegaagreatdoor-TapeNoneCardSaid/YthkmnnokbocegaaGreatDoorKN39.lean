/-
  Part 39: what the statement needs of these texts: TFrom, TIds2.
-/
import Derived.BigQuiet
import Derived.BigRegion
import Derived.Deep.DeepCutAuto
import Derived.Deep.DeepMust
import Derived.Deep.OwnRows
import Derived.Deep.QuietTactic
import Derived.Deep.RegionHeld3
import Derived.Deep.RegionLaw
import Derived.Defers
import Derived.IntWalk
import Derived.Laws.BitsAllLaws
import Derived.Laws.CopyOwn
import Derived.Laws.OwnMore
import Derived.Laws.PanicsMore
import Derived.Laws.RangeAny
import Derived.Laws.Rows
import Derived.Laws.StructEq
import Derived.Lib.AppendStr
import Derived.Lib.AppendZerosOnto
import Derived.Lib.Atoi
import Derived.Lib.AtoiErrMem
import Derived.Lib.BufferRead
import Derived.Lib.BufferWrite
import Derived.Lib.Hide
import Derived.Lib.ItoaNum
import Derived.Lib.LaidTab
import Derived.Lib.OthersKept
import Derived.Lib.Repeat
import Derived.Lib.SliceRun
import Derived.Maps.AppendAt
import Derived.Maps.OwnSet
import Derived.Maps.RangeWalk
import Derived.Orders
import Derived.ProofKit
import Derived.Recover
import Derived.RowKit
import Derived.Shelf.GgClosure.StringsIndexFunc
import Derived.Shelf.GgClosure.StringsIndexFuncTop
import Derived.Shelf.LaysM
import Derived.Shelf.SlSortCmp.NoneTotal
import Derived.Shelf.Slices.Clone
import Derived.Shelf.Slices.Empties
import Derived.Shelf.Slices.In.SortNone
import Derived.Shelf.Slices.SearchI
import Derived.Shelf.Slices.Turned
import Derived.Shelf.Small.Wraps
import Derived.Shelf.Sort.Plain
import Derived.Shelf.Strconv.Atoi
import Derived.Shelf.Strconv.Itoa3
import Derived.Shelf.Strings.Builder1
import Derived.Shelf.Strings.Prefix
import Derived.Shelf.Strings.Repeat
import Derived.Sort.KeysCollected
import Derived.Sort.OwnSorted
import Derived.StillTailTactics
import Derived.StringKeys
import Derived.Test.YthkmnnokbocegaaGreatDoorProg
import Derived.Test.YthkmnnokbocegaaGreatDoorRows
import Derived.WalkKit
import Derived.WalkLawsBesides
import Derived.WalkSmall
import Derived.WalkSpells
import Derived.Test.YthkmnnokbocegaaGreatDoorKN1
import Derived.Test.YthkmnnokbocegaaGreatDoorKN2
import Derived.Test.YthkmnnokbocegaaGreatDoorKN3
import Derived.Test.YthkmnnokbocegaaGreatDoorKN4
import Derived.Test.YthkmnnokbocegaaGreatDoorKN5
import Derived.Test.YthkmnnokbocegaaGreatDoorKN6
import Derived.Test.YthkmnnokbocegaaGreatDoorKN7
import Derived.Test.YthkmnnokbocegaaGreatDoorKN8
import Derived.Test.YthkmnnokbocegaaGreatDoorKN9
import Derived.Test.YthkmnnokbocegaaGreatDoorKN10
import Derived.Test.YthkmnnokbocegaaGreatDoorKN11
import Derived.Test.YthkmnnokbocegaaGreatDoorKN12
import Derived.Test.YthkmnnokbocegaaGreatDoorKN13
import Derived.Test.YthkmnnokbocegaaGreatDoorKN14
import Derived.Test.YthkmnnokbocegaaGreatDoorKN15
import Derived.Test.YthkmnnokbocegaaGreatDoorKN16
import Derived.Test.YthkmnnokbocegaaGreatDoorKN17
import Derived.Test.YthkmnnokbocegaaGreatDoorKN18
import Derived.Test.YthkmnnokbocegaaGreatDoorKN19
import Derived.Test.YthkmnnokbocegaaGreatDoorKN20
import Derived.Test.YthkmnnokbocegaaGreatDoorKN21
import Derived.Test.YthkmnnokbocegaaGreatDoorKN22
import Derived.Test.YthkmnnokbocegaaGreatDoorKN23
import Derived.Test.YthkmnnokbocegaaGreatDoorKN24
import Derived.Test.YthkmnnokbocegaaGreatDoorKN25
import Derived.Test.YthkmnnokbocegaaGreatDoorKN26
import Derived.Test.YthkmnnokbocegaaGreatDoorKN27
import Derived.Test.YthkmnnokbocegaaGreatDoorKN29
import Derived.Test.YthkmnnokbocegaaGreatDoorKN30
import Derived.Test.YthkmnnokbocegaaGreatDoorKN33
import Derived.Test.YthkmnnokbocegaaGreatDoorKN34
import Derived.Test.YthkmnnokbocegaaGreatDoorKN35
import Derived.Test.YthkmnnokbocegaaGreatDoorKN36
import Derived.Test.YthkmnnokbocegaaGreatDoorKN37
import Derived.Test.YthkmnnokbocegaaGreatDoorKN38
namespace Go.Proofs.YthkmnnokbocegaaGreatDoor
open Go.RowKit Go.Deep
set_option linter.unusedVariables false
set_option linter.unusedSimpArgs false

/-- How many lie below a place. -/
def lowN (ids : List Int) (a : Int) : Nat := ids.countP (· < a)
theorem lowN_le (ids : List Int) (a : Int) : lowN ids a ≤ ids.length := List.countP_le_length
def FromTo (w : World) (l : List Int) (e : Ending) (w' : World) : Prop := ∃ v', e = .returned v' ∧ Ints w v' l ∧ CapOk v' ∧ ∃ q, w' = w.drewN q
theorem own_form' {w : World} {base : Nat} {ids : List Int} {v : Value} (h : w.ownsRow base 3 1 v ids.length (ids.map (Value.int .i64))) :
    (ids = [] ∧ v = .slice none 0 0) ∨ ∃ g c, v = .slice (some ⟨g, 0, none⟩) ids.length c ∧ ids.length ≤ c ∧ ∀ i, i < ids.length → w.cell? ⟨g, i, none⟩ = some (.int .i64 (ids.getD i 0)) := by
  rcases h.2 with ⟨e, h0⟩ | ⟨g, cap, cur, e, _, _, hc, _⟩
  · exact .inl ⟨List.length_eq_zero_iff.1 h0, e⟩
  · refine .inr ⟨g, cap, e, hc, fun i hi => ?_⟩
    have := h.cells (g := g) (by rw [e]; rfl) i (.int .i64 (ids.getD i 0)) (by rw [List.getElem?_map, List.getElem?_eq_getElem hi, List.getD_eq_getElem?_getD, List.getElem?_eq_getElem hi]; rfl)
    rw [add_none, Nat.zero_add] at this
    exact this
set_option maxRecDepth 100000 in
theorem tfrom_any {w0 w : World} {tb d : Nat} {t : TapeM} (h : TapeAt w0 w tb d t) (hs : t.ids.Pairwise (· ≤ ·)) (hn : t.ids.length ≤ 1000000) (a : Int) :
    Calls Tryz.prog 62 #[.pointer (some ⟨tb, 0, none⟩), .int .i64 a] w (FromTo w (t.ids.drop (lowN t.ids a))) := by
  obtain ⟨c0, c1, c2, c3, c4, c5, z⟩ := h.cell
  obtain ⟨i, hi⟩ : ∃ i, i = lowN t.ids a := ⟨_, rfl⟩
  have hil : i ≤ t.ids.length := hi ▸ lowN_le _ _
  rcases own_form' h.own with ⟨h0, hv⟩ | ⟨g, c, hv, hc, hcell⟩
  · rw [hv] at c4
    have hi0 : i = 0 := by rw [h0] at hil; simpa using hil
    have HB : Hid (Calls Tryz.prog 97 #[.slice none 0 0, .int .i64 a] w fun e w' => e = .returned (.tuple #[.int .i64 0, .bool false]) ∧ ∃ q, w' = w.drewN q) := Lib.hid ((Any.slices_BinarySearch_int_empty Tryz.laysNm225 none 0 a w).mono fun e w' h => ⟨h.1, 0, h.2⟩)
    have H0 := Lib.hid h0
    clear c0 c1 c2 c3 c5 z h hs hn hv hi hil hi0 h0
    go_enter Tryz.func62, Tryz.ntmps62
    go_wp2_with fail
    refine HB.out.mono ?_
    rintro e w1 ⟨rfl, q, rfl⟩
    go_wp2_with fail
    go_ret
    exact ⟨_, rfl, by rw [H0.out]; exact ⟨none, 0, by simp, .inl (by simp)⟩, ⟨none, 0, 0, rfl, Nat.le_refl _⟩, q, rfl⟩
  · rw [hv] at c4
    have HB := Lib.hid (Tryz.slices_BinarySearch_int g 0 t.ids.length c t.ids a w (Nat.le_refl _) (by omega) (fun j hj => by rw [Nat.zero_add]; exact hcell j hj) (by rw [List.take_length]; exact hs))
    rw [List.take_length, show t.ids.countP (· < a) = i from hi.symm] at HB
    obtain ⟨bb, hbb⟩ : ∃ bb, t.ids.contains a = bb := ⟨_, rfl⟩
    rw [hbb] at HB
    obtain ⟨n, hn'⟩ : ∃ n, n = t.ids.length := ⟨_, rfl⟩
    rw [← hn'] at c4 HB hil hn hc
    have HV : Hid (Ints w (.slice (some ⟨g, i, none⟩) (n - i) (c - i)) (t.ids.drop i)) := Lib.hid ⟨_, _, by rw [List.length_drop, hn'], .inr ⟨g, i, rfl, fun j hj => by
      rw [List.length_drop] at hj
      rw [hcell (i + j) (by omega)]
      simp [List.getD_eq_getElem?_getD, List.getElem?_drop]⟩⟩
    rw [← hi]
    have HNL := Lib.hid hn'
    clear c0 c1 c2 c3 c5 z h hs hv hi hcell hbb hn'
    go_enter Tryz.func62, Tryz.ntmps62
    go_wp2_with fail
    refine HB.out.mono ?_
    rintro e w1 ⟨rfl, q, rfl⟩
    go_wp2_with fail
    · go_ret
      refine ⟨_, rfl, ?_, ⟨_, _, _, rfl, by omega⟩, q, rfl⟩
      have hd : n - i = 0 := by omega
      have hl0 : t.ids.drop i = [] := by rw [List.drop_eq_nil_iff]; have := HNL.out; omega
      rw [hl0]
      exact ⟨_, _, by rw [hd]; rfl, .inl rfl⟩
    · go_ret
      exact ⟨_, rfl, HV.out, ⟨_, _, _, rfl, by omega⟩, q, rfl⟩
end Go.Proofs.YthkmnnokbocegaaGreatDoor

namespace Go.Proofs.YthkmnnokbocegaaGreatDoor
open Go.RowKit Go.Deep
set_option linter.unusedVariables false
set_option linter.unusedSimpArgs false

/-- A copy of numbers: its own. -/
def IntsTo (w : World) (l : List Int) (e : Ending) (w' : World) : Prop := ∃ v', e = .returned v' ∧ w'.ownsRow w.heap.size 3 1 v' l.length (l.map (Value.int .i64)) ∧ Below w.heap.size w w'
theorem append_ints {w : World} {base : Nat} {v u : Value} {xs : List Int} (ys : List Int) (hown : w.ownsRow base 3 1 v xs.length (xs.map (Value.int .i64))) (hu : Ints w u ys) (hn : xs.length + ys.length ≤ 2000000) (hb : base ≤ w.heap.size) (ty : TypeId) :
    ∃ v' w', (Builtin.append_ #[32, 32] ty #[v, u]).run Tryz.prog w = .ok v' w' ∧ w'.ownsRow base 3 1 v' (xs ++ ys).length ((xs ++ ys).map (Value.int .i64)) ∧ w.grownBy w' v.ownBlock := by
  obtain ⟨i0, hi, hz0, hz1, hz2⟩ := info_parts info_num
  obtain ⟨a, cap, rfl, h⟩ := hu
  rw [List.length_append, List.map_append]
  cases a with
  | none =>
    have h0 : ys = [] := by
      rcases h with h | ⟨b, o, h, _⟩
      · exact h
      · cases h
    subst h0
    refine ⟨v, w, ?_, by simpa using hown, grownBy_refl _ _⟩
    rcases hown.2 with ⟨rfl, hx⟩ | ⟨g, cap, cur, rfl, _, _, hnc, _⟩
    · simp [Builtin.append_, run_underlying Tryz.underlying32, sizeOf, typeInfo, hi, Builtin.lenOf, Builtin.firstCells]
    · simp [Builtin.append_, run_underlying Tryz.underlying32, sizeOf, typeInfo, hi, Builtin.lenOf, Builtin.firstCells, hnc, storeCells]
  | some a =>
    have hc : ∀ j u, (ys.map (Value.int .i64))[j]? = some u → w.cell? (a.add j) = some u := by
      intro j u hj
      have hlt : j < ys.length := by
        have := (List.getElem?_eq_some_iff.1 hj).1
        simpa using this
      rcases h with h | ⟨b, o, h, h2⟩
      · subst h; simp at hlt
      · cases h
        rw [add_none, h2 j hlt]
        rw [List.getElem?_map, List.getElem?_eq_getElem hlt] at hj
        simp only [Option.map_some, Option.some.injEq] at hj
        rw [← hj, List.getD_eq_getElem?_getD, List.getElem?_eq_getElem hlt]
        rfl
    obtain ⟨v', w', h1, h2, h3, _⟩ := run_append_own (P := Tryz.prog) w base 32 ty 3 i0 (.int .i64 0) 1 8 Tryz.underlying32 hi hz0 hz1 hz2 rfl (by decide) v xs.length (xs.map (Value.int .i64)) hown a ys.length cap (ys.map (Value.int .i64)) (by simp) hc (by
      intro u hu
      obtain ⟨t, _, rfl⟩ := List.mem_map.1 hu
      rfl) (by unfold maxLen; omega) (by omega) hb
    exact ⟨v', w', h1, h2, h3⟩
theorem wpList_append_ints {w : World} {ops : Array Oper} {rest : List Oper} {o : Oper} {a : Act} {Q : Exit → Act → World → Prop} (hgd : o.guard = none) (sl x : Operand)
    (ho : o.op = .call { callee := .builtin .append, args := #[sl, x], argTypes := #[32, 32] })
    (base : Nat) (v u : Value) (xs ys : List Int) (hs : a.eval sl = v) (hx : a.eval x = u) (hown : w.ownsRow base 3 1 v xs.length (xs.map (Value.int .i64))) (hu : Ints w u ys) (hn : xs.length + ys.length ≤ 2000000) (hbase : base ≤ w.heap.size)
    (h : ∀ v' w', w'.ownsRow base 3 1 v' (xs ++ ys).length ((xs ++ ys).map (Value.int .i64)) → w.grownBy w' v.ownBlock → wpList Tryz.prog ops Q rest (a.put o.dst v') w') : wpList Tryz.prog ops Q (o :: rest) a w := by
  refine wpList_plain hgd fun K hK => ?_
  obtain ⟨v', w', hr, h2, h3⟩ := append_ints (w := w) (u := u) ys hown hu hn hbase o.type
  unfold Oper.wp execOp
  simp only [ho, resolve, invoke, builtin, Sem.run_bind, Sem.run_pure, Result.andThen_ok, List.map_toArray, List.map_cons, List.map_nil, hs, hx, hr]
  exact hK _ _ (h v' w' h2 h3)
theorem iclone_any (v : Value) (l : List Int) (w : World) (h : Ints w v l) (hl : l.length ≤ 1000000) :
    Calls Tryz.prog 63 #[v] w (IntsTo w l) := by
  obtain ⟨a, c, rfl, h'⟩ := id h
  cases a with
  | none =>
    have h0 : l = [] := by
      rcases h' with h | ⟨b, o, h, _⟩
      · exact h
      · cases h
    subst h0
    have hnil := fun W => Lib.run_eql_slice_nil (P := Tryz.prog) W 32 3 none 0 c 0 0 Tryz.underlying32
    clear h h'
    go_enter Tryz.func63, Tryz.ntmps63
    go_wp2_with fail
    go_ret
    exact ⟨_, rfl, World.ownsRow_nil _ _ _ _, Below.refl _ _⟩
  | some a =>
    obtain ⟨n, hn⟩ : ∃ n, n = l.length := ⟨_, rfl⟩
    rw [← hn] at h
    rw [← hn]
    have hnil := fun W => Lib.run_eql_slice_nil (P := Tryz.prog) W 32 3 (some a) n c 0 0 Tryz.underlying32
    have H := Lib.hid h
    have HN := Lib.hid hn
    clear h h' hn
    go_enter Tryz.func63, Tryz.ntmps63
    go_wp2_with (at_builtin; with_reducible refine wpList_append_ints rfl (.tmp 5) (.tmp 6) rfl w.heap.size (.slice (some ⟨w.heap.size, 0, none⟩) 0 0) _ [] l rfl rfl ?c1 ?c2 ?c3 ?c4 ?c5)
    case c1 => exact World.ownsRow_made w #[] 0 (Nat.le_refl _) (Nat.zero_le _) rfl
    case c2 => exact H.out.below ((Below.refl _ _).alloc (Nat.le_refl _) _) (Nat.le_refl _)
    case c3 => simp; omega
    case c4 => simp [go_sem]
    case c5 =>
      intro v' w' ho hg
      have HO := Lib.hid ho
      have HB : Hid (Below w.heap.size w w') := Lib.hid (((Below.refl _ _).alloc (Nat.le_refl _) _).grown hg (by simp [go_sem]) (fun k hk => by simp [Value.ownBlock] at hk; omega))
      clear ho hg
      go_wp2_with fail
      go_ret
      exact ⟨_, rfl, HO.out, HB.out⟩
theorem tids_any {w0 w : World} {tb d : Nat} {t : TapeM} (h : TapeAt w0 w tb d t) (hs : t.ids.Pairwise (· ≤ ·)) (hn : t.ids.length ≤ 1000000) (a : Int) :
    Calls Tryz.prog 31 #[.pointer (some ⟨tb, 0, none⟩), .int .i64 a] w (IntsTo w (t.ids.drop (lowN t.ids a))) := by
  have HF := Lib.hid (tfrom_any h hs hn a)
  obtain ⟨l, hl⟩ : ∃ l, l = t.ids.drop (lowN t.ids a) := ⟨_, rfl⟩
  have hll : l.length ≤ 1000000 := by rw [hl, List.length_drop]; omega
  rw [← hl] at HF ⊢
  clear h hs hn hl
  go_enter Tryz.func31, Tryz.ntmps31
  go_wp2_with fail
  refine HF.out.mono ?_
  rintro e w1 ⟨v', rfl, hv, _, q, rfl⟩
  obtain ⟨a', c', hv'⟩ := id hv
  have HV := Lib.hid hv
  have hC := iclone_any v' l (w.drewN q) (by exact hv) hll
  obtain ⟨ve, _⟩ := hv'
  rw [ve] at hC ⊢
  have HC := Lib.hid hC
  clear hC hv ve
  go_wp2_with fail
  refine HC.out.mono ?_
  rintro e w2 ⟨v2, rfl, ho, hb⟩
  go_wp2_with fail
  go_ret
  exact ⟨_, rfl, ho, (below_drewN (Below.refl w.heap.size w) q).trans hb⟩
end Go.Proofs.YthkmnnokbocegaaGreatDoor

