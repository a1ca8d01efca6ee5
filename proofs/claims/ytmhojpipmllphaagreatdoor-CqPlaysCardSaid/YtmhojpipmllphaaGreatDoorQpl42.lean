/-
  Part 42: what the statement needs of these texts: QR36, QW0a, QW0b, QWx, QWw.
-/
import Derived.BigQuiet
import Derived.BigRegion
import Derived.Deep.AppendLies
import Derived.Deep.AppendSrc
import Derived.Deep.CutBlock
import Derived.Deep.DeepCutAuto
import Derived.Deep.DrawnRows
import Derived.Deep.Grids
import Derived.Deep.OwnRows
import Derived.Deep.QuietTactic
import Derived.Deep.RegionHeld3
import Derived.DeepKeys4
import Derived.IntWalk
import Derived.Laws.CopyOwn
import Derived.Laws.OwnMore
import Derived.Laws.RangeAny
import Derived.Lib.AppendStr
import Derived.Lib.AppendZerosOnto
import Derived.Lib.Atoi
import Derived.Lib.AtoiErrMem
import Derived.Lib.BufferRead
import Derived.Lib.BufferWrite
import Derived.Lib.Builder
import Derived.Lib.Hide
import Derived.Lib.ItoaNum
import Derived.Lib.LaidTab
import Derived.Lib.MinMax
import Derived.Lib.OthersKept
import Derived.Lib.Repeat
import Derived.Lib.SliceRun
import Derived.Lib.Slices
import Derived.Lib.SmallJoins
import Derived.Lib.Strings
import Derived.Lib.UnsafeStr
import Derived.Maps.AppendAt
import Derived.Maps.OwnSet
import Derived.Maps.RangeWalk
import Derived.OpenShut
import Derived.Orders
import Derived.ProofKit
import Derived.RowKit
import Derived.Shelf.GgClosure.StringsIndexFunc
import Derived.Shelf.GgClosure.StringsIndexFuncTop
import Derived.Shelf.LaysM
import Derived.Shelf.SlSortCmp.NoneTotal
import Derived.Shelf.Slices.In.SortNone
import Derived.Shelf.Slices.SearchI
import Derived.Shelf.Small.Wraps
import Derived.Shelf.Sort.Plain
import Derived.Shelf.Strconv.Atoi
import Derived.Shelf.Strconv.Itoa3
import Derived.Shelf.Strings.Builder1
import Derived.Shelf.Strings.Prefix
import Derived.Shelf.Strings.Repeat
import Derived.Sort.KeysCollected
import Derived.Sort.OwnSorted
import Derived.StillTailTactics
import Derived.StringKeys
import Derived.Test.YtmhojpipmllphaaGreatDoorProg
import Derived.Test.YtmhojpipmllphaaGreatDoorRows
import Derived.WalkKit
import Derived.WalkLawsBesides
import Derived.WalkSmall
import Derived.WalkSpells
import Derived.Test.YtmhojpipmllphaaGreatDoorQpl1
import Derived.Test.YtmhojpipmllphaaGreatDoorQpl2
import Derived.Test.YtmhojpipmllphaaGreatDoorQpl3
import Derived.Test.YtmhojpipmllphaaGreatDoorQpl4
import Derived.Test.YtmhojpipmllphaaGreatDoorQpl5
import Derived.Test.YtmhojpipmllphaaGreatDoorQpl6
import Derived.Test.YtmhojpipmllphaaGreatDoorQpl7
import Derived.Test.YtmhojpipmllphaaGreatDoorQpl8
import Derived.Test.YtmhojpipmllphaaGreatDoorQpl9
import Derived.Test.YtmhojpipmllphaaGreatDoorQpl10
import Derived.Test.YtmhojpipmllphaaGreatDoorQpl11
import Derived.Test.YtmhojpipmllphaaGreatDoorQpl12
import Derived.Test.YtmhojpipmllphaaGreatDoorQpl13
import Derived.Test.YtmhojpipmllphaaGreatDoorQpl14
import Derived.Test.YtmhojpipmllphaaGreatDoorQpl15
import Derived.Test.YtmhojpipmllphaaGreatDoorQpl16
import Derived.Test.YtmhojpipmllphaaGreatDoorQpl17
import Derived.Test.YtmhojpipmllphaaGreatDoorQpl18
import Derived.Test.YtmhojpipmllphaaGreatDoorQpl19
import Derived.Test.YtmhojpipmllphaaGreatDoorQpl20
import Derived.Test.YtmhojpipmllphaaGreatDoorQpl21
import Derived.Test.YtmhojpipmllphaaGreatDoorQpl22
import Derived.Test.YtmhojpipmllphaaGreatDoorQpl23
import Derived.Test.YtmhojpipmllphaaGreatDoorQpl24
import Derived.Test.YtmhojpipmllphaaGreatDoorQpl26
import Derived.Test.YtmhojpipmllphaaGreatDoorQpl27
import Derived.Test.YtmhojpipmllphaaGreatDoorQpl28
import Derived.Test.YtmhojpipmllphaaGreatDoorQpl29
import Derived.Test.YtmhojpipmllphaaGreatDoorQpl30
import Derived.Test.YtmhojpipmllphaaGreatDoorQpl31
import Derived.Test.YtmhojpipmllphaaGreatDoorQpl32
import Derived.Test.YtmhojpipmllphaaGreatDoorQpl33
import Derived.Test.YtmhojpipmllphaaGreatDoorQpl34
import Derived.Test.YtmhojpipmllphaaGreatDoorQpl35
import Derived.Test.YtmhojpipmllphaaGreatDoorQpl36
import Derived.Test.YtmhojpipmllphaaGreatDoorQpl37
import Derived.Test.YtmhojpipmllphaaGreatDoorQpl38
import Derived.Test.YtmhojpipmllphaaGreatDoorQpl39
import Derived.Test.YtmhojpipmllphaaGreatDoorQpl40
import Derived.Test.YtmhojpipmllphaaGreatDoorQpl41
namespace Go.Proofs.YtmhojpipmllphaaGreatDoor
open Go.RowKit Go.Deep
set_option linter.unusedVariables false
set_option linter.unusedSimpArgs false
attribute [local go_sem] fr_opt

def findR (n : Nat) : Code → Option Code
  | .region m o d => if m = n then some (.region m o d) else none
  | .block _ c => findR n c
  | .seq a b => match findR n a with
    | some c => some c
    | none => findR n b
  | .loop c => findR n c
  | .scope c => findR n c
  | .cond _ a b => match findR n a with
    | some c => some c
    | none => findR n b
  | _ => none
noncomputable def r36C : Code := (Tryz.f3.body.bind (findR 36)).getD .skip

abbrev PT : TypeId := 32
/-- An own row of entries, its block at hand. -/
def RowP (B : Nat) (l : List PlM) (v : Value) (w : World) : Prop := ∃ g cap cur, v = .slice (some ⟨g, 0, none⟩) l.length cap ∧ B ≤ g ∧ w.heap[g]? = some (Obj.cells cur PT (0, 0)) ∧ l.length ≤ cap ∧ cap ≤ maxLen ∧ cur.size = cap * 4 ∧ cur.toList.take (l.length * 4) = l.flatMap plCells
def REmpty (B : Nat) (v : Value) (w : World) : Prop := ∃ g, v = .slice (some ⟨g, 0, none⟩) 0 0 ∧ B ≤ g ∧ w.heap[g]? = some (Obj.cells #[] PT (0, 0))
def RBlk (p : PlM) (v : Value) (w : World) : Prop := ∃ q, v = .slice (some ⟨q, 0, none⟩) 1 1 ∧ w.heap[q]? = some (Obj.cells #[.int .i64 p.a, .int .i64 p.b, .int .i64 p.c, .int .i64 p.d] PT (0, 0))
/-- What the region's operations leave as it was. -/
def RKeep (B : Nat) (es : List PlM) (p : PlM) (w w' : World) : Prop := (∀ g : Nat, w.heap[g]? = some (Obj.cells #[] PT (0, 0)) → w'.heap[g]? = some (Obj.cells #[] PT (0, 0))) ∧ (∀ v, RowP B es v w → RowP B es v w') ∧ (∀ v, RowP B (es ++ [p]) v w → RowP B (es ++ [p]) v w') ∧ (∀ q : Nat, w.heap[q]? = some (Obj.cells #[.int .i64 p.a, .int .i64 p.b, .int .i64 p.c, .int .i64 p.d] PT (0, 0)) → w'.heap[q]? = some (Obj.cells #[.int .i64 p.a, .int .i64 p.b, .int .i64 p.c, .int .i64 p.d] PT (0, 0)))
theorem RKeep.refl {B : Nat} {es : List PlM} {p : PlM} {w : World} : RKeep B es p w w := ⟨fun _ h => h, fun _ h => h, fun _ h => h, fun _ h => h⟩
theorem RKeep.empty {B : Nat} {es : List PlM} {p : PlM} {w w' : World} (h : RKeep B es p w w') {v : Value} (hr : REmpty B v w) : REmpty B v w' := by
  obtain ⟨g, e, hg, hb⟩ := hr
  exact ⟨g, e, hg, h.1 g hb⟩
theorem RKeep.blk {B : Nat} {es : List PlM} {p : PlM} {w w' : World} (h : RKeep B es p w w') {v : Value} (hr : RBlk p v w) : RBlk p v w' := by
  obtain ⟨q, e, hb⟩ := hr
  exact ⟨q, e, h.2.2.2 q hb⟩
theorem RowP.old {B : Nat} {l : List PlM} {v : Value} {w w' : World} (h : RowP B l v w) (ho : ∀ k, k < w.heap.size → w'.heap[k]? = w.heap[k]?) : RowP B l v w' := by
  obtain ⟨g, cap, cur, e, hg, hb, h1⟩ := h
  exact ⟨g, cap, cur, e, hg, (ho g (Array.getElem?_eq_some_iff.1 hb).1).trans hb, h1⟩
theorem RKeep.old {B : Nat} {es : List PlM} {p : PlM} {w w' : World} (ho : ∀ k, k < w.heap.size → w'.heap[k]? = w.heap[k]?) : RKeep B es p w w' :=
  ⟨fun g h => (ho g (Array.getElem?_eq_some_iff.1 h).1).trans h, fun _ h => h.old ho, fun _ h => h.old ho, fun q h => (ho q (Array.getElem?_eq_some_iff.1 h).1).trans h⟩
theorem RKeep.alloc {B : Nat} {es : List PlM} {p : PlM} {w : World} (o : Obj) : RKeep B es p w (w.alloc o) := RKeep.old fun k hk => Below.heap_alloc w o k hk
theorem REmpty.row {B : Nat} {v : Value} {w : World} (h : REmpty B v w) : RowP B [] v w := by
  obtain ⟨g, e, hg, hb⟩ := h
  exact ⟨g, 0, #[], e, hg, hb, Nat.le_refl _, Nat.zero_le _, rfl, rfl⟩
theorem plC_len4 (l : List PlM) : (l.flatMap plCells).length = l.length * 4 := plC_len l
theorem plC_ones (l : List PlM) : ∀ u ∈ l.flatMap plCells, u.oneCell' = true := by
  intro u hu
  obtain ⟨x, _, hx⟩ := List.mem_flatMap.1 hu
  exact plC_one x u hx
theorem fr_tmp {n t : Nat} {v : Value} (f : Nat → Value) (ht : t < n) (h : f t = v) : (Fr n f).eval (.tmp t) = v := by rw [fr_eval, if_pos ht]; exact h
/-- Nothing is appended to the empty row. -/
theorem app_none (w : World) (pe : Option Addr) (ce g : Nat) : (Builtin.append_ #[37, 37] 37 #[.slice (some ⟨g, 0, none⟩) 0 0, .slice pe 0 ce]).run Tryz.prog w = .ok (.slice (some ⟨g, 0, none⟩) 0 0) w := by
  obtain ⟨ip, hip, hz0, hz1, hz2⟩ := info_parts info_pl
  have hs : Src Tryz.prog ip.size 37 (.slice pe 0 ce) 0 [] w := by
    cases pe with
    | none => exact Src.ofNil w Tryz.underlying37 ce
    | some a => exact Src.ofSlice w Tryz.underlying37 a 0 ce [] (by simp) (fun j u h => by cases h) (fun u h => by cases h)
  have := run_append_room_src (P := Tryz.prog) w 37 37 37 32 ip Tryz.underlying37 hip g 0 0 0 (.slice pe 0 ce) 0 [] hs (by omega) (fun j hj => by cases hj) (fun j hj => by cases hj)
  simpa [World.setCells] using this
/-- A row is grown: the other rows stay. -/
theorem app_keep {B : Nat} {es : List PlM} {p : PlM} {w w' : World} {g cap : Nat} {cur cur' : Array Value} (hg : w.heap[g]? = some (Obj.cells cur PT (0, 0))) (hcs : cur.size = cap * 4) (hgr : w.grownBy w' (some g))
    (h' : w'.heap[g]? = some (Obj.cells cur' PT (0, 0))) (hcs' : cur'.size = cap * 4) (hcap : es.length + 1 ≤ cap) (hpos : 0 < es.length) (ht : cur'.toList.take ((es.length + 1) * 4) = (es ++ [p]).flatMap plCells) : RKeep B es p w w' := by
  have hoth : ∀ k, k < w.heap.size → k ≠ g → w'.heap[k]? = w.heap[k]? := fun k hk hne => hgr.block k hk (by simpa using hne)
  have hlt : ∀ {k : Nat} {o : Obj}, w.heap[k]? = some o → k < w.heap.size := fun h => (Array.getElem?_eq_some_iff.1 h).1
  have hbig : 8 ≤ cur.size := by omega
  have hrow : ∀ (l : List PlM) v, l.length ≤ es.length + 1 → ((es ++ [p]).flatMap plCells).take (l.length * 4) = l.flatMap plCells → RowP B l v w → RowP B l v w' := by
    intro l v hl hp ⟨g2, cap2, cur2, e, hb2, hh2, h1, h2, h3, h4⟩
    by_cases hne : g2 = g
    · subst hne
      rw [hg] at hh2
      injection hh2 with hh2
      injection hh2 with hh2 _ _
      subst hh2
      refine ⟨g2, cap2, cur', e, hb2, h', h1, h2, by omega, ?_⟩
      rw [← hp, ← ht, List.take_take]
      congr 1
      omega
    · exact ⟨g2, cap2, cur2, e, hb2, (hoth g2 (hlt hh2) hne).trans hh2, h1, h2, h3, h4⟩
  refine ⟨fun k hk => ?_, fun v hv => hrow es v (by omega) ?_ hv, fun v hv => hrow (es ++ [p]) v (by simp) ?_ hv, fun k hk => ?_⟩
  · by_cases hne : k = g
    · subst hne
      rw [hg] at hk
      injection hk with hk
      injection hk with hk _ _
      rw [hk] at hbig
      simp at hbig
    · exact (hoth k (hlt hk) hne).trans hk
  · rw [List.flatMap_append, List.take_append_of_le_length (by rw [plC_len4]; exact Nat.le_refl _), List.take_of_length_le (by rw [plC_len4]; exact Nat.le_refl _)]
  · rw [List.take_of_length_le (by rw [plC_len4]; exact Nat.le_refl _)]
  · by_cases hne : k = g
    · subst hne
      rw [hg] at hk
      injection hk with hk
      injection hk with hk _ _
      rw [hk] at hbig
      simp at hbig
    · exact (hoth k (hlt hk) hne).trans hk
theorem rowP_of {B : Nat} {l : List PlM} {g cap : Nat} {w : World} (h : w.ownsRow B PT 4 (.slice (some ⟨g, 0, none⟩) l.length cap) l.length (l.flatMap plCells)) : RowP B l (.slice (some ⟨g, 0, none⟩) l.length cap) w := by
  rcases h.2 with ⟨hv, _⟩ | ⟨g1, cap1, cur, hv, hb, hh, h1, h2, h3, h4⟩
  · cases hv
  · injection hv with q1 _ q3
    injection q1 with q1
    injection q1 with q1 _ _
    subst q1 q3
    exact ⟨g, cap, cur, rfl, hb, hh, h1, h2, h3, h4⟩
set_option maxRecDepth 100000 in
/-- Where one appends, as the region's operations do it. -/
theorem app_at (f : Nat → Value) (w6 w : World) {B : Nat} (hH : Chg (fun _ => False) w6 w) (hB : B = w6.heap.size) {l new : List PlM} {g cap : Nat} {cur : Array Value} (hg : w.heap[g]? = some (Obj.cells cur PT (0, 0))) (hbg : B ≤ g) (hlc : l.length ≤ cap) (hcm : cap ≤ maxLen) (hcs : cur.size = cap * 4) (ht : cur.toList.take (l.length * 4) = l.flatMap plCells)
    (ad : Addr) (n c : Nat) (hn : n = new.length) (hpos : 0 < n) (hlim : l.length + n ≤ 200000) (hnews : ∀ j u, (new.flatMap plCells)[j]? = some u → w.cell? (ad.add j) = some u) :
    ∃ g' cap' w', (Builtin.append_ #[37, 37] 37 #[.slice (some ⟨g, 0, none⟩) l.length cap, .slice (some ad) n c]).run Tryz.prog w = .ok (.slice (some ⟨g', 0, none⟩) (l ++ new).length cap') w' ∧
      RowP B (l ++ new) (.slice (some ⟨g', 0, none⟩) (l ++ new).length cap') w' ∧ Chg (fun _ => False) w6 w' ∧ w.grownBy w' (some g) ∧
      (cap < l.length + n → ∀ k, k < w.heap.size → w'.heap[k]? = w.heap[k]?) ∧
      (l.length + n ≤ cap → ∃ cur', w'.heap[g]? = some (Obj.cells cur' PT (0, 0)) ∧ cur'.size = cap * 4 ∧ cur'.toList.take ((l.length + n) * 4) = (l ++ new).flatMap plCells) := by
  obtain ⟨ip, hip, hz0, hz1, hz2⟩ := info_parts info_pl
  subst hn
  obtain ⟨g', cap', w', hr, h2, h3, h4, h5, h6⟩ := run_append_keep (P := Tryz.prog) w 37 37 B 32 ip _ 4 32 Tryz.underlying37 hip hz0 hz1 hz2 rfl (by decide) g l.length cap cur (l.flatMap plCells) hg hlc hcm hcs ht (plC_len4 l) hbg ad new.length c (new.flatMap plCells) (plC_len4 new) hnews (plC_ones new) hpos (by unfold maxLen; omega) (by omega) (by rw [hB]; exact hH.size)
  have e1 : l.flatMap plCells ++ new.flatMap plCells = (l ++ new).flatMap plCells := (List.flatMap_append ..).symm
  have e2 : l.length + new.length = (l ++ new).length := (List.length_append ..).symm
  rw [e1] at h2 h6
  have hb : Chg (fun _ => False) w6 w' := by
    refine hH.trans (Chg.of_grown (S := fun q => q = g) h3 (fun q hx _ => by injection hx with hx; exact hx.symm)) (fun q hq hx => ?_)
    rw [hx, ← hB] at hq
    exact absurd hbg (by omega)
  rw [e2] at h2 hr
  refine ⟨g', cap', w', hr, rowP_of h2, hb, h3, h5, fun hroom => ?_⟩
  obtain ⟨_, cur', k1, k2, k3⟩ := h6 hroom
  exact ⟨cur', k1, k2, k3⟩
/-- At the operation: the entries that were, onto the empty row. -/
theorem app_first (f : Nat → Value) {w6 : World} (w : World) {B : Nat} {es : List PlM} {p : PlM} (hH : Chg (fun _ => False) w6 w) (hB : B = w6.heap.size) (g el : Nat) (pe : Option Addr) (ce : Nat) (hel : el = es.length) (hpos : 0 < el) (hlim : el ≤ 100000)
    (hsrc : ∀ i x, es[i]? = some x → ∃ q, pe = some ⟨q, 0, none⟩ ∧ ∀ k, k < 4 → w6.cell? ⟨q, i * 4 + k, none⟩ = (plCells x)[k]?) (hg : B ≤ g) (hblk : w.heap[g]? = some (Obj.cells #[] PT (0, 0)))
    {o : Oper} {a : Act} {K : Act → World → Prop} {Q : Exit → Act → World → Prop} (s x : Operand) (ho : o.op = .call { callee := .builtin .append, args := #[s, x], argTypes := #[37, 37] }) (hty : o.type = 37)
    (hs : a.eval s = .slice (some ⟨g, 0, none⟩) 0 0) (hx : a.eval x = .slice pe el ce)
    (h : ∀ v w', RowP B es v w' → Chg (fun _ => False) w6 w' → RKeep B es p w w' → K (a.put o.dst v) w') : o.wp Tryz.prog a w K Q := by
  obtain ⟨x0, hx0⟩ : ∃ x0, es[0]? = some x0 := ⟨_, List.getElem?_eq_getElem (by omega)⟩
  obtain ⟨q, hq, _⟩ := hsrc 0 x0 hx0
  subst hq
  have hnews : ∀ j u, (es.flatMap plCells)[j]? = some u → w.cell? ((⟨q, 0, none⟩ : Addr).add j) = some u := by
    intro j u hj
    have hjl : j < es.length * 4 := by
      have := (List.getElem?_eq_some_iff.1 hj).1
      rwa [plC_len4] at this
    have hadd : (⟨q, 0, none⟩ : Addr).add j = ⟨q, j / 4 * 4 + j % 4, none⟩ := by
      unfold Addr.add
      have : j / 4 * 4 + j % 4 = j := by omega
      split <;> simp_all
    obtain ⟨y, hy⟩ : ∃ y, es[j / 4]? = some y := ⟨_, List.getElem?_eq_getElem (by omega)⟩
    obtain ⟨q2, hq2, hc⟩ := hsrc _ y hy
    injection hq2 with hq2
    injection hq2 with hq2 _ _
    subst hq2
    have h1 := hc (j % 4) (by omega)
    have h2 := qflat_get (enc := plCells) (k := 4) (fun _ => rfl) es (j / 4) (j % 4) (by omega)
    rw [hy, show j / 4 * 4 + j % 4 = j by omega, hj] at h2
    rw [hadd]
    have h3 : w6.cell? ⟨q, j / 4 * 4 + j % 4, none⟩ = some u := h1.trans h2.symm
    exact hH.cell h3 (fun x => x)
  obtain ⟨g', cap', w', hr, h2, h3, h4, h5, h6⟩ := app_at f w6 w hH hB (l := []) (new := es) hblk hg (Nat.le_refl _) (Nat.zero_le _) rfl rfl ⟨q, 0, none⟩ el ce hel hpos (by show 0 + el ≤ 200000; omega) hnews
  unfold Oper.wp execOp
  rw [List.length_nil] at hr
  simp only [ho, hty, resolve, invoke, builtin, Sem.run_bind, Sem.run_pure, Result.andThen_ok, List.map_toArray, List.map_cons, List.map_nil, hs, hx, hr]
  exact h _ w' h2 h3 (RKeep.old (h5 (by simpa using hpos)))
/-- And the new entry behind them. -/
theorem app_next (f : Nat → Value) {w6 : World} (w : World) {B : Nat} {es : List PlM} (p : PlM) (el : Nat) (hH : Chg (fun _ => False) w6 w) (hel : el = es.length) (hlim : el ≤ 100000) (hB : B = w6.heap.size) {v : Value} (hrow : RowP B es v w) (hnz : (∃ g, v = .slice (some ⟨g, 0, none⟩) 0 0) ∨ 0 < el)
    (q : Nat) (hblk : w.heap[q]? = some (Obj.cells #[.int .i64 p.a, .int .i64 p.b, .int .i64 p.c, .int .i64 p.d] PT (0, 0)))
    {o : Oper} {a : Act} {K : Act → World → Prop} {Q : Exit → Act → World → Prop} (s x : Operand) (ho : o.op = .call { callee := .builtin .append, args := #[s, x], argTypes := #[37, 37] }) (hty : o.type = 37)
    (hs : a.eval s = v) (hx : a.eval x = .slice (some ⟨q, 0, none⟩) 1 1)
    (h : ∀ v w', RowP B (es ++ [p]) v w' → Chg (fun _ => False) w6 w' → RKeep B es p w w' → K (a.put o.dst v) w') : o.wp Tryz.prog a w K Q := by
  obtain ⟨g, cap, cur, rfl, hg, hh, h1, h2, h3, h4⟩ := hrow
  have hnews : ∀ j u, ([p].flatMap plCells)[j]? = some u → w.cell? ((⟨q, 0, none⟩ : Addr).add j) = some u := fun j u hj => World.news_of_block hblk j u (by simpa [plCells] using hj)
  obtain ⟨g', cap', w', hr, r2, r3, r4, r5, r6⟩ := app_at f w6 w hH hB (l := es) (new := [p]) hh hg h1 h2 h3 h4 ⟨q, 0, none⟩ 1 1 rfl (by decide) (by omega) hnews
  unfold Oper.wp execOp
  simp only [ho, hty, resolve, invoke, builtin, Sem.run_bind, Sem.run_pure, Result.andThen_ok, List.map_toArray, List.map_cons, List.map_nil, hs, hx, hr]
  refine h _ w' r2 r3 ?_
  by_cases hroom : es.length + 1 ≤ cap
  · obtain ⟨cur', k1, k2, k3⟩ := r6 hroom
    have hp : 0 < es.length := by
      rcases hnz with ⟨g2, e⟩ | hp
      · injection e with _ _ e
        omega
      · omega
    exact app_keep hh h3 r4 k1 k2 hroom hp k3
  · exact RKeep.old (r5 (by omega))
theorem REmpty.cap {B : Nat} {v : Value} {w : World} (h : REmpty B v w) : ∃ g, v = .slice (some ⟨g, 0, none⟩) 0 0 := by
  obtain ⟨g, e, _⟩ := h
  exact ⟨g, e⟩
theorem app_nil (w : World) (g el : Nat) (pe : Option Addr) (ce : Nat) (h0 : el = 0)
    {o : Oper} {a : Act} {K : Act → World → Prop} {Q : Exit → Act → World → Prop} (s x : Operand) (ho : o.op = .call { callee := .builtin .append, args := #[s, x], argTypes := #[37, 37] }) (hty : o.type = 37)
    (hs : a.eval s = .slice (some ⟨g, 0, none⟩) 0 0) (hx : a.eval x = .slice pe el ce) (h : K (a.put o.dst (.slice (some ⟨g, 0, none⟩) 0 0)) w) : o.wp Tryz.prog a w K Q := by
  subst h0
  have hr := app_none w pe ce g
  unfold Oper.wp execOp
  simp only [ho, hty, resolve, invoke, builtin, Sem.run_bind, Sem.run_pure, Result.andThen_ok, List.map_toArray, List.map_cons, List.map_nil, hs, hx, hr]
  exact h
set_option maxHeartbeats 8000000 in
set_option maxRecDepth 100000 in
theorem r36_zero (f : Nat → Value) (Q : Exit → Act → World → Prop) {w6 : World} {b j al ac B7 lo B el : Nat} {pe : Option Addr} {ce : Nat} (es : List PlM) (p : PlM)
    (f5 : f 5 = .slice (some ⟨b, 0, none⟩) al ac) (f9 : f 9 = .int .i64 (j : Int)) (f7 : f 7 = .pointer (some ⟨B7, 0, none⟩)) (hj : j < al) (hal : al ≤ 1000) (hB : B = w6.heap.size) (hlo : lo ≤ w6.heap.size)
    (e4 : w6.cell? ⟨B7, 4, none⟩ = some (.int .i64 p.a)) (e5 : w6.cell? ⟨B7, 5, none⟩ = some (.int .i64 p.b)) (e6 : w6.cell? ⟨B7, 6, none⟩ = some (.int .i64 p.c)) (e7 : w6.cell? ⟨B7, 7, none⟩ = some (.int .i64 p.d))
    (c4 : w6.cell? ⟨b, j * 5 + 4, none⟩ = some (.slice pe el ce)) (hfz : ∀ W, Chg (fun _ => False) w6 W → ∀ i, W.frozen? ⟨b, i, none⟩ = false)
    (hel : el = es.length) (hlim : el ≤ 100000) (hz : es = []) (hsrc : ∀ i x, es[i]? = some x → ∃ q, pe = some ⟨q, 0, none⟩ ∧ ∀ k, k < 4 → w6.cell? ⟨q, i * 4 + k, none⟩ = (plCells x)[k]?)
    (hQ : ∀ f' W1 vv, Chg (fun _ => False) w6 W1 → EsAt W1 lo vv (es ++ [p]) → (∀ q, vv.ownBlock = some q → w6.heap.size ≤ q) → f' 0 = f 0 → f' 3 = f 3 → f' 5 = f 5 → f' 36 = f 36 → f' 37 = f 37 → f' 38 = f 38 → Q .normal (Fr 400 f') (W1.setCell ⟨b, j * 5 + 4, none⟩ vv)) :
    Code.wp Tryz.prog r36C Q (Fr 400 f) w6 := by
  have HEL := Lib.hid hel
  have HPZ := Lib.hid hz
  have HBB := Lib.hid hB
  have HSRC := Lib.hid hsrc
  have HQ := Lib.hid hQ
  clear hel hz hB hsrc hQ
  unfold r36C
  conv => arg 2; whnf
  refine region_last (n := 400) (f0 := f) (by kernel_rfl) (by kernel_rfl) 15 _ rfl rfl (by kernel_rfl) (fun i v w' => match i with | 0 => v = .slice (some ⟨b, 0, none⟩) al ac | 1 => v = .int .i64 (j : Int) | 3 => v = .slice (some ⟨b, 0, none⟩) al ac | 4 => v = .int .i64 (j : Int) | 5 => v = .pointer (some ⟨b, j * 5, none⟩) | 6 => v = .pointer (some ⟨b, j * 5 + 4, none⟩) | 7 => v = .slice pe el ce | 9 => v = .pointer (some ⟨B7, 4, none⟩) | 10 => v = .agg #[.int .i64 p.a, .int .i64 p.b, .int .i64 p.c, .int .i64 p.d] | 13 => v = .pointer (some ⟨b, j * 5, none⟩) | 14 => v = .pointer (some ⟨b, j * 5 + 4, none⟩) | 2 => REmpty B v w' | 8 => REmpty B v w' | 11 => RBlk p v w' | 12 => RowP B (es ++ [p]) v w' | _ => True)
    (fun w' => Chg (fun _ => False) w6 w') (RKeep B es p) (fun _ => RKeep.refl) (by
      intro i v w1 w2 hg hr
      match i, hr with
      | 0, hr => exact hr
      | 1, hr => exact hr
      | 2, hr => exact hg.empty hr
      | 3, hr => exact hr
      | 4, hr => exact hr
      | 5, hr => exact hr
      | 6, hr => exact hr
      | 7, hr => exact hr
      | 8, hr => exact hg.empty hr
      | 9, hr => exact hr
      | 10, hr => exact hr
      | 11, hr => exact hg.blk hr
      | 12, hr => exact hg.2.2.1 _ hr
      | 13, hr => exact hr
      | 14, hr => exact hr
      | k + 15, hr => trivial)
    ((Chg.refl _ _).drew) ?_ ?_
  · intro i o hi ho
    match i, hi, ho with
    | 0, _, ho =>
      cases ho
      intro f' w' hH hfr hp
      refine Eq.mpr (if_pos (by rfl)) ?_
      intro Kx hK
      have g5 : f' 5 = .slice (some ⟨b, 0, none⟩) al ac := (hfr 5 (by kernel_rfl)).trans f5
      clear hfr hp
      go_simp
      exact hK _ _ rfl hH RKeep.refl
    | 1, _, ho =>
      cases ho
      intro f' w' hH hfr hp
      refine Eq.mpr (if_pos (by rfl)) ?_
      intro Kx hK
      have g9 : f' 9 = .int .i64 (j : Int) := (hfr 9 (by kernel_rfl)).trans f9
      clear hfr hp
      go_simp
      exact hK _ _ rfl hH RKeep.refl
    | 2, _, ho =>
      cases ho
      intro f' w' hH hfr hp
      refine Eq.mpr (if_pos (by rfl)) ?_
      intro Kx hK
      clear hfr hp
      go_simp
      exact hK _ _ ⟨w'.heap.size, rfl, Nat.le_trans (Nat.le_of_eq HBB.out) hH.size, heap_alloc_new _ _⟩ (hH.trans (Chg.alloc _ (Chg.refl _ _) _) (fun _ _ x => x)) (RKeep.alloc _)
    | 3, _, ho =>
      cases ho
      intro f' w' hH hfr hp
      refine Eq.mpr (if_pos (by rfl)) ?_
      intro Kx hK
      have g5 : f' 5 = .slice (some ⟨b, 0, none⟩) al ac := (hfr 5 (by kernel_rfl)).trans f5
      clear hfr hp
      go_simp
      exact hK _ _ rfl hH RKeep.refl
    | 4, _, ho =>
      cases ho
      intro f' w' hH hfr hp
      refine Eq.mpr (if_pos (by rfl)) ?_
      intro Kx hK
      have g9 : f' 9 = .int .i64 (j : Int) := (hfr 9 (by kernel_rfl)).trans f9
      clear hfr hp
      go_simp
      exact hK _ _ rfl hH RKeep.refl
    | 5, _, ho =>
      cases ho
      intro f' w' hH hfr hp
      refine Eq.mpr (if_pos (by rfl)) ?_
      intro Kx hK
      have g132 : f' 132 = .slice (some ⟨b, 0, none⟩) al ac := hp 3 _ 132 rfl rfl (by kernel_rfl)
      have g133 : f' 133 = .int .i64 (j : Int) := hp 4 _ 133 rfl rfl (by kernel_rfl)
      clear hfr hp
      have hjl : (j : Int) < (al : Int) := by omega
      go_simp
      exact hK _ _ rfl hH RKeep.refl
    | 6, _, ho =>
      cases ho
      intro f' w' hH hfr hp
      refine Eq.mpr (if_pos (by rfl)) ?_
      intro Kx hK
      have g134 : f' 134 = .pointer (some ⟨b, j * 5, none⟩) := hp 5 _ 134 rfl rfl (by kernel_rfl)
      clear hfr hp
      go_simp
      exact hK _ _ rfl hH RKeep.refl
    | 7, _, ho =>
      cases ho
      intro f' w' hH hfr hp
      refine Eq.mpr (if_pos (by rfl)) ?_
      intro Kx hK
      have g135 : f' 135 = .pointer (some ⟨b, j * 5 + 4, none⟩) := hp 6 _ 135 rfl rfl (by kernel_rfl)
      clear hfr hp
      have c4' := hH.cell c4 (fun x => x)
      go_simp
      exact hK _ _ rfl hH RKeep.refl
    | 8, _, ho =>
      cases ho
      intro f' w' hH hfr hp
      refine Eq.mpr (if_pos (by rfl)) ?_
      intro Kx hK
      have r131 := hp 2 _ 131 rfl rfl (by kernel_rfl)
      have g136 : f' 136 = .slice pe el ce := hp 7 _ 136 rfl rfl (by kernel_rfl)
      clear hfr hp
      obtain ⟨g, e131, hg, hblk⟩ := r131
      exact app_nil w' g el pe ce (by rw [HEL.out, HPZ.out]; rfl) (.tmp 131) (.tmp 136) rfl rfl (fr_tmp _ (by decide) e131) (fr_tmp _ (by decide) g136) (hK _ _ ⟨g, rfl, hg, hblk⟩ hH RKeep.refl)
    | 9, _, ho =>
      cases ho
      intro f' w' hH hfr hp
      refine Eq.mpr (if_pos (by rfl)) ?_
      intro Kx hK
      have g7 : f' 7 = .pointer (some ⟨B7, 0, none⟩) := (hfr 7 (by kernel_rfl)).trans f7
      clear hfr hp
      go_simp
      exact hK _ _ rfl hH RKeep.refl
    | 10, _, ho =>
      cases ho
      intro f' w' hH hfr hp
      refine Eq.mpr (if_pos (by rfl)) ?_
      intro Kx hK
      have g138 : f' 138 = .pointer (some ⟨B7, 4, none⟩) := hp 9 _ 138 rfl rfl (by kernel_rfl)
      clear hfr hp
      have e4' := hH.cell e4 (fun x => x)
      have e5' := hH.cell e5 (fun x => x)
      have e6' := hH.cell e6 (fun x => x)
      have e7' := hH.cell e7 (fun x => x)
      go_simp
      exact hK _ _ rfl hH RKeep.refl
    | 11, _, ho =>
      cases ho
      intro f' w' hH hfr hp
      refine Eq.mpr (if_pos (by rfl)) ?_
      intro Kx hK
      have g139 : f' 139 = .agg #[.int .i64 p.a, .int .i64 p.b, .int .i64 p.c, .int .i64 p.d] := hp 10 _ 139 rfl rfl (by kernel_rfl)
      clear hfr hp
      go_simp
      exact hK _ _ ⟨w'.heap.size, rfl, heap_alloc_new _ _⟩ (hH.trans (Chg.alloc _ (Chg.refl _ _) _) (fun _ _ x => x)) (RKeep.alloc _)
    | 12, _, ho =>
      cases ho
      intro f' w' hH hfr hp
      refine Eq.mpr (if_pos (by rfl)) ?_
      intro Kx hK
      have r137 := hp 8 _ 137 rfl rfl (by kernel_rfl)
      have r140 := hp 11 _ 140 rfl rfl (by kernel_rfl)
      clear hfr hp
      obtain ⟨q, e140, hblk⟩ := r140
      refine app_next f' w' p el hH HEL.out hlim HBB.out (by have := REmpty.row r137; rw [← HPZ.out] at this; exact this) (.inl (REmpty.cap r137)) q hblk (.tmp 137) (.tmp 140) rfl rfl (fr_tmp _ (by decide) rfl) (fr_tmp _ (by decide) e140) ?_
      intro v9 w9 hr9 hc9 hk9
      exact hK _ _ hr9 hc9 hk9
    | 13, _, ho =>
      cases ho
      intro f' w' hH hfr hp
      refine Eq.mpr (if_pos (by rfl)) ?_
      intro Kx hK
      have g129 : f' 129 = .slice (some ⟨b, 0, none⟩) al ac := hp 0 _ 129 rfl rfl (by kernel_rfl)
      have g130 : f' 130 = .int .i64 (j : Int) := hp 1 _ 130 rfl rfl (by kernel_rfl)
      clear hfr hp
      have hjl : (j : Int) < (al : Int) := by omega
      go_simp
      exact hK _ _ rfl hH RKeep.refl
    | 14, _, ho =>
      cases ho
      intro f' w' hH hfr hp
      refine Eq.mpr (if_pos (by rfl)) ?_
      intro Kx hK
      have g142 : f' 142 = .pointer (some ⟨b, j * 5, none⟩) := hp 13 _ 142 rfl rfl (by kernel_rfl)
      clear hfr hp
      go_simp
      exact hK _ _ rfl hH RKeep.refl
    | k + 15, hi, ho => exact absurd ho (by cases k with | zero => exact absurd rfl hi | succ k => intro h; cases h)
  · intro f' w' hH hfr hR
    have g143 : f' 143 = .pointer (some ⟨b, j * 5 + 4, none⟩) := hR 14 _ 143 (by decide) rfl rfl
    obtain ⟨g, cap, cur, g141, hg, hblk, h1, h2, h3, h4⟩ := hR 12 _ 141 (by decide) rfl rfl
    have c4' := hH.cell c4 (fun x => x)
    have hfz' : ∀ i, w'.frozen? ⟨b, i, none⟩ = false := hfz w' hH
    go_simp
    rw [show es.length + 1 = (es ++ [p]).length by simp]
    refine HQ.out f' w' _ hH ⟨by rw [plC_len4], .inr ⟨g, cap, cur, rfl, by have := HBB.out; omega, hblk, h1, h2, h3, h4⟩⟩ (fun q hq => ?_) (hfr 0 (by kernel_rfl)) (hfr 3 (by kernel_rfl)) (hfr 5 (by kernel_rfl)) (hfr 36 (by kernel_rfl)) (hfr 37 (by kernel_rfl)) (hfr 38 (by kernel_rfl))
    obtain rfl : g = q := Option.some.inj hq
    rw [← HBB.out]
    exact hg
set_option maxHeartbeats 8000000 in
set_option maxRecDepth 100000 in
theorem r36_more (f : Nat → Value) (Q : Exit → Act → World → Prop) {w6 : World} {b j al ac B7 lo B el : Nat} {pe : Option Addr} {ce : Nat} (es : List PlM) (p : PlM)
    (f5 : f 5 = .slice (some ⟨b, 0, none⟩) al ac) (f9 : f 9 = .int .i64 (j : Int)) (f7 : f 7 = .pointer (some ⟨B7, 0, none⟩)) (hj : j < al) (hal : al ≤ 1000) (hB : B = w6.heap.size) (hlo : lo ≤ w6.heap.size)
    (e4 : w6.cell? ⟨B7, 4, none⟩ = some (.int .i64 p.a)) (e5 : w6.cell? ⟨B7, 5, none⟩ = some (.int .i64 p.b)) (e6 : w6.cell? ⟨B7, 6, none⟩ = some (.int .i64 p.c)) (e7 : w6.cell? ⟨B7, 7, none⟩ = some (.int .i64 p.d))
    (c4 : w6.cell? ⟨b, j * 5 + 4, none⟩ = some (.slice pe el ce)) (hfz : ∀ W, Chg (fun _ => False) w6 W → ∀ i, W.frozen? ⟨b, i, none⟩ = false)
    (hel : el = es.length) (hlim : el ≤ 100000) (hpos : 0 < el) (hsrc : ∀ i x, es[i]? = some x → ∃ q, pe = some ⟨q, 0, none⟩ ∧ ∀ k, k < 4 → w6.cell? ⟨q, i * 4 + k, none⟩ = (plCells x)[k]?)
    (hQ : ∀ f' W1 vv, Chg (fun _ => False) w6 W1 → EsAt W1 lo vv (es ++ [p]) → (∀ q, vv.ownBlock = some q → w6.heap.size ≤ q) → f' 0 = f 0 → f' 3 = f 3 → f' 5 = f 5 → f' 36 = f 36 → f' 37 = f 37 → f' 38 = f 38 → Q .normal (Fr 400 f') (W1.setCell ⟨b, j * 5 + 4, none⟩ vv)) :
    Code.wp Tryz.prog r36C Q (Fr 400 f) w6 := by
  have HEL := Lib.hid hel
  have HPZ := Lib.hid hpos
  have HBB := Lib.hid hB
  have HSRC := Lib.hid hsrc
  have HQ := Lib.hid hQ
  clear hel hpos hB hsrc hQ
  unfold r36C
  conv => arg 2; whnf
  refine region_last (n := 400) (f0 := f) (by kernel_rfl) (by kernel_rfl) 15 _ rfl rfl (by kernel_rfl) (fun i v w' => match i with | 0 => v = .slice (some ⟨b, 0, none⟩) al ac | 1 => v = .int .i64 (j : Int) | 3 => v = .slice (some ⟨b, 0, none⟩) al ac | 4 => v = .int .i64 (j : Int) | 5 => v = .pointer (some ⟨b, j * 5, none⟩) | 6 => v = .pointer (some ⟨b, j * 5 + 4, none⟩) | 7 => v = .slice pe el ce | 9 => v = .pointer (some ⟨B7, 4, none⟩) | 10 => v = .agg #[.int .i64 p.a, .int .i64 p.b, .int .i64 p.c, .int .i64 p.d] | 13 => v = .pointer (some ⟨b, j * 5, none⟩) | 14 => v = .pointer (some ⟨b, j * 5 + 4, none⟩) | 2 => REmpty B v w' | 8 => RowP B es v w' | 11 => RBlk p v w' | 12 => RowP B (es ++ [p]) v w' | _ => True)
    (fun w' => Chg (fun _ => False) w6 w') (RKeep B es p) (fun _ => RKeep.refl) (by
      intro i v w1 w2 hg hr
      match i, hr with
      | 0, hr => exact hr
      | 1, hr => exact hr
      | 2, hr => exact hg.empty hr
      | 3, hr => exact hr
      | 4, hr => exact hr
      | 5, hr => exact hr
      | 6, hr => exact hr
      | 7, hr => exact hr
      | 8, hr => exact hg.2.1 _ hr
      | 9, hr => exact hr
      | 10, hr => exact hr
      | 11, hr => exact hg.blk hr
      | 12, hr => exact hg.2.2.1 _ hr
      | 13, hr => exact hr
      | 14, hr => exact hr
      | k + 15, hr => trivial)
    ((Chg.refl _ _).drew) ?_ ?_
  · intro i o hi ho
    match i, hi, ho with
    | 0, _, ho =>
      cases ho
      intro f' w' hH hfr hp
      refine Eq.mpr (if_pos (by rfl)) ?_
      intro Kx hK
      have g5 : f' 5 = .slice (some ⟨b, 0, none⟩) al ac := (hfr 5 (by kernel_rfl)).trans f5
      clear hfr hp
      go_simp
      exact hK _ _ rfl hH RKeep.refl
    | 1, _, ho =>
      cases ho
      intro f' w' hH hfr hp
      refine Eq.mpr (if_pos (by rfl)) ?_
      intro Kx hK
      have g9 : f' 9 = .int .i64 (j : Int) := (hfr 9 (by kernel_rfl)).trans f9
      clear hfr hp
      go_simp
      exact hK _ _ rfl hH RKeep.refl
    | 2, _, ho =>
      cases ho
      intro f' w' hH hfr hp
      refine Eq.mpr (if_pos (by rfl)) ?_
      intro Kx hK
      clear hfr hp
      go_simp
      exact hK _ _ ⟨w'.heap.size, rfl, Nat.le_trans (Nat.le_of_eq HBB.out) hH.size, heap_alloc_new _ _⟩ (hH.trans (Chg.alloc _ (Chg.refl _ _) _) (fun _ _ x => x)) (RKeep.alloc _)
    | 3, _, ho =>
      cases ho
      intro f' w' hH hfr hp
      refine Eq.mpr (if_pos (by rfl)) ?_
      intro Kx hK
      have g5 : f' 5 = .slice (some ⟨b, 0, none⟩) al ac := (hfr 5 (by kernel_rfl)).trans f5
      clear hfr hp
      go_simp
      exact hK _ _ rfl hH RKeep.refl
    | 4, _, ho =>
      cases ho
      intro f' w' hH hfr hp
      refine Eq.mpr (if_pos (by rfl)) ?_
      intro Kx hK
      have g9 : f' 9 = .int .i64 (j : Int) := (hfr 9 (by kernel_rfl)).trans f9
      clear hfr hp
      go_simp
      exact hK _ _ rfl hH RKeep.refl
    | 5, _, ho =>
      cases ho
      intro f' w' hH hfr hp
      refine Eq.mpr (if_pos (by rfl)) ?_
      intro Kx hK
      have g132 : f' 132 = .slice (some ⟨b, 0, none⟩) al ac := hp 3 _ 132 rfl rfl (by kernel_rfl)
      have g133 : f' 133 = .int .i64 (j : Int) := hp 4 _ 133 rfl rfl (by kernel_rfl)
      clear hfr hp
      have hjl : (j : Int) < (al : Int) := by omega
      go_simp
      exact hK _ _ rfl hH RKeep.refl
    | 6, _, ho =>
      cases ho
      intro f' w' hH hfr hp
      refine Eq.mpr (if_pos (by rfl)) ?_
      intro Kx hK
      have g134 : f' 134 = .pointer (some ⟨b, j * 5, none⟩) := hp 5 _ 134 rfl rfl (by kernel_rfl)
      clear hfr hp
      go_simp
      exact hK _ _ rfl hH RKeep.refl
    | 7, _, ho =>
      cases ho
      intro f' w' hH hfr hp
      refine Eq.mpr (if_pos (by rfl)) ?_
      intro Kx hK
      have g135 : f' 135 = .pointer (some ⟨b, j * 5 + 4, none⟩) := hp 6 _ 135 rfl rfl (by kernel_rfl)
      clear hfr hp
      have c4' := hH.cell c4 (fun x => x)
      go_simp
      exact hK _ _ rfl hH RKeep.refl
    | 8, _, ho =>
      cases ho
      intro f' w' hH hfr hp
      refine Eq.mpr (if_pos (by rfl)) ?_
      intro Kx hK
      have r131 := hp 2 _ 131 rfl rfl (by kernel_rfl)
      have g136 : f' 136 = .slice pe el ce := hp 7 _ 136 rfl rfl (by kernel_rfl)
      clear hfr hp
      obtain ⟨g, e131, hg, hblk⟩ := r131
      refine app_first (p := p) f' w' hH HBB.out g el pe ce HEL.out HPZ.out hlim HSRC.out hg hblk (.tmp 131) (.tmp 136) rfl rfl (fr_tmp _ (by decide) e131) (fr_tmp _ (by decide) g136) ?_
      intro v9 w9 hr9 hc9 hk9
      exact hK _ _ hr9 hc9 hk9
    | 9, _, ho =>
      cases ho
      intro f' w' hH hfr hp
      refine Eq.mpr (if_pos (by rfl)) ?_
      intro Kx hK
      have g7 : f' 7 = .pointer (some ⟨B7, 0, none⟩) := (hfr 7 (by kernel_rfl)).trans f7
      clear hfr hp
      go_simp
      exact hK _ _ rfl hH RKeep.refl
    | 10, _, ho =>
      cases ho
      intro f' w' hH hfr hp
      refine Eq.mpr (if_pos (by rfl)) ?_
      intro Kx hK
      have g138 : f' 138 = .pointer (some ⟨B7, 4, none⟩) := hp 9 _ 138 rfl rfl (by kernel_rfl)
      clear hfr hp
      have e4' := hH.cell e4 (fun x => x)
      have e5' := hH.cell e5 (fun x => x)
      have e6' := hH.cell e6 (fun x => x)
      have e7' := hH.cell e7 (fun x => x)
      go_simp
      exact hK _ _ rfl hH RKeep.refl
    | 11, _, ho =>
      cases ho
      intro f' w' hH hfr hp
      refine Eq.mpr (if_pos (by rfl)) ?_
      intro Kx hK
      have g139 : f' 139 = .agg #[.int .i64 p.a, .int .i64 p.b, .int .i64 p.c, .int .i64 p.d] := hp 10 _ 139 rfl rfl (by kernel_rfl)
      clear hfr hp
      go_simp
      exact hK _ _ ⟨w'.heap.size, rfl, heap_alloc_new _ _⟩ (hH.trans (Chg.alloc _ (Chg.refl _ _) _) (fun _ _ x => x)) (RKeep.alloc _)
    | 12, _, ho =>
      cases ho
      intro f' w' hH hfr hp
      refine Eq.mpr (if_pos (by rfl)) ?_
      intro Kx hK
      have r137 := hp 8 _ 137 rfl rfl (by kernel_rfl)
      have r140 := hp 11 _ 140 rfl rfl (by kernel_rfl)
      clear hfr hp
      obtain ⟨q, e140, hblk⟩ := r140
      refine app_next f' w' p el hH HEL.out hlim HBB.out r137 (.inr HPZ.out) q hblk (.tmp 137) (.tmp 140) rfl rfl (fr_tmp _ (by decide) rfl) (fr_tmp _ (by decide) e140) ?_
      intro v9 w9 hr9 hc9 hk9
      exact hK _ _ hr9 hc9 hk9
    | 13, _, ho =>
      cases ho
      intro f' w' hH hfr hp
      refine Eq.mpr (if_pos (by rfl)) ?_
      intro Kx hK
      have g129 : f' 129 = .slice (some ⟨b, 0, none⟩) al ac := hp 0 _ 129 rfl rfl (by kernel_rfl)
      have g130 : f' 130 = .int .i64 (j : Int) := hp 1 _ 130 rfl rfl (by kernel_rfl)
      clear hfr hp
      have hjl : (j : Int) < (al : Int) := by omega
      go_simp
      exact hK _ _ rfl hH RKeep.refl
    | 14, _, ho =>
      cases ho
      intro f' w' hH hfr hp
      refine Eq.mpr (if_pos (by rfl)) ?_
      intro Kx hK
      have g142 : f' 142 = .pointer (some ⟨b, j * 5, none⟩) := hp 13 _ 142 rfl rfl (by kernel_rfl)
      clear hfr hp
      go_simp
      exact hK _ _ rfl hH RKeep.refl
    | k + 15, hi, ho => exact absurd ho (by cases k with | zero => exact absurd rfl hi | succ k => intro h; cases h)
  · intro f' w' hH hfr hR
    have g143 : f' 143 = .pointer (some ⟨b, j * 5 + 4, none⟩) := hR 14 _ 143 (by decide) rfl rfl
    obtain ⟨g, cap, cur, g141, hg, hblk, h1, h2, h3, h4⟩ := hR 12 _ 141 (by decide) rfl rfl
    have c4' := hH.cell c4 (fun x => x)
    have hfz' : ∀ i, w'.frozen? ⟨b, i, none⟩ = false := hfz w' hH
    go_simp
    rw [show es.length + 1 = (es ++ [p]).length by simp]
    refine HQ.out f' w' _ hH ⟨by rw [plC_len4], .inr ⟨g, cap, cur, rfl, by have := HBB.out; omega, hblk, h1, h2, h3, h4⟩⟩ (fun q hq => ?_) (hfr 0 (by kernel_rfl)) (hfr 3 (by kernel_rfl)) (hfr 5 (by kernel_rfl)) (hfr 36 (by kernel_rfl)) (hfr 37 (by kernel_rfl)) (hfr 38 (by kernel_rfl))
    obtain rfl : g = q := Option.some.inj hq
    rw [← HBB.out]
    exact hg
theorem r36_any (f : Nat → Value) (Q : Exit → Act → World → Prop) {w6 : World} {b j al ac B7 lo : Nat} {sl : Value} (es : List PlM) (p : PlM)
    (f5 : f 5 = .slice (some ⟨b, 0, none⟩) al ac) (f9 : f 9 = .int .i64 (j : Int)) (f7 : f 7 = .pointer (some ⟨B7, 0, none⟩)) (hj : j < al) (hal : al ≤ 1000) (hlo : lo ≤ w6.heap.size)
    (e4 : w6.cell? ⟨B7, 4, none⟩ = some (.int .i64 p.a)) (e5 : w6.cell? ⟨B7, 5, none⟩ = some (.int .i64 p.b)) (e6 : w6.cell? ⟨B7, 6, none⟩ = some (.int .i64 p.c)) (e7 : w6.cell? ⟨B7, 7, none⟩ = some (.int .i64 p.d))
    (c4 : w6.cell? ⟨b, j * 5 + 4, none⟩ = some sl) (hbl : b < w6.heap.size) (hfz : ∀ i, w6.frozen? ⟨b, i, none⟩ = false) (hes : EsAt w6 lo sl es) (hap : sl.ownBlock ≠ some b) (hlim : es.length ≤ 100000)
    (hQ : ∀ f' W1 vv, Chg (fun _ => False) w6 W1 → EsAt W1 lo vv (es ++ [p]) → (∀ q, vv.ownBlock = some q → w6.heap.size ≤ q) → f' 0 = f 0 → f' 3 = f 3 → f' 5 = f 5 → f' 36 = f 36 → f' 37 = f 37 → f' 38 = f 38 → Q .normal (Fr 400 f') (W1.setCell ⟨b, j * 5 + 4, none⟩ vv)) :
    Code.wp Tryz.prog r36C Q (Fr 400 f) w6 := by
  obtain ⟨pe, ce, rfl, _, hsrc⟩ := hes.plc hap
  have hfz2 : ∀ W, Chg (fun _ => False) w6 W → ∀ i, W.frozen? ⟨b, i, none⟩ = false := fun W hc i => by
    rw [World.frozen?_of_block (hc.block b hbl (fun x => x))]
    exact hfz i
  by_cases hz : es = []
  · exact r36_zero f Q es p f5 f9 f7 hj hal rfl hlo e4 e5 e6 e7 c4 hfz2 rfl hlim hz hsrc hQ
  · exact r36_more f Q es p f5 f9 f7 hj hal rfl hlo e4 e5 e6 e7 c4 hfz2 rfl hlim (List.length_pos_iff.2 hz) hsrc hQ
end Go.Proofs.YtmhojpipmllphaaGreatDoor

namespace Go.Proofs.YtmhojpipmllphaaGreatDoor
open Go.RowKit Go.Deep
set_option linter.unusedVariables false
set_option linter.unusedSimpArgs false
attribute [local go_sem] fr_opt
/-- One cell, as it is. -/
theorem oneC_same {w : World} {b o : Nat} {v : Value} (h : w.cell? ⟨b, o, none⟩ = some v) : OneC w w b o v :=
  ⟨Chg.refl _ _, h, fun _ _ => rfl, fun _ => rfl, fun cur t hcur => by
    have hv : cur[o]? = some v := by
      have := h
      simp only [World.cell?, hcur] at this
      exact this
    rw [hcur]
    congr 2
    apply Array.ext_getElem?
    intro j
    rw [Array.getElem?_setIfInBounds]
    split
    · rename_i e
      subst e
      rw [hv, if_pos (Array.getElem?_eq_some_iff.1 hv).1]
    · rfl⟩
set_option maxHeartbeats 16000000 in
set_option maxRecDepth 100000 in
theorem sw_0there (f : Nat → Value) {w wr w4 : World} {qb k lo : Nat} {vv : Value} {Ms : List MoM} {B7 B10 : Nat} {x : OpQ} {kq : QK} {i : Int} {mt : ByteArray} {mq : Int} {sl : Value} (h : SwIn f w wr w4 qb k lo vv Ms B7 B10 x kq i mt mq sl) (J : Act → World → Prop) (Q : Exit → Act → World → Prop) (hJ : ∀ a w', SwO f w qb k lo a w' → J a w') (k0 : x.k = 0) (hr : refQ x.t x.q = 0) (hf : x.p.fit = true) {j : Nat} {m : MoM} (hj : Ms[j]? = some m) (hmk : m.key = kq.1) (hij : i = (j : Int)) (hml : m.line = lnQ Ms kq) :
    Code.wp Tryz.prog swC (Exit.then J Q) (Fr 400 f) w4 := by
  have H := Lib.hid h
  obtain ⟨f3, f5, f7, f8, f9, f10, f11, f79, hpl, hk, hc, hb7, hb10, _, _, _, hkq, hts, hwf, hfd⟩ := id h
  obtain ⟨e0, e1, e2, e3, e4, e5, e6, e7, m2, m3, m4⟩ := h.cells (Chg.refl (fun _ => False) w4) (fun _ x => x.elim)
  have HPL := Lib.hid hpl
  have HC := Lib.hid hc
  have HKQ := Lib.hid hkq
  have HFD := Lib.hid hfd
  have HJ := Lib.hid hJ
  clear h hJ hpl hc hkq hfd hwf hb7 hb10

  obtain ⟨xk, xq, xn, xt, ⟨pa, pb, pc, pd⟩⟩ := x
  subst hij
  dsimp only at k0 f8 f79 e0 e1 e2 e3 e4 e5 e6 e7 hts hr hf
  subst k0
  obtain ⟨htb, hq2⟩ := refQ_ok hr
  rw [hr] at f8
  obtain ⟨aa, ac, hva⟩ := HPL.out.form
  subst hva
  have htb1 : topicB kq.1.1 = true := by rw [HKQ.out]; exact htb
  have hq1 : 0 ≤ kq.1.2 ∧ kq.1.2 ≤ 2 := by rw [HKQ.out]; exact hq2
  have HB := HPL.out.add_ (by omega) HC.out kq htb1 hq1 ⟨pa, pb, pc, pd⟩ hf
  rw [HKQ.out] at HB
  have HB := Lib.hid HB
  unfold PlM.val at HB
  dsimp only at HB
  have hR : ∀ W, Calls Tryz.prog 10 #[.agg #[.int .i64 pa, .int .i64 pb, .int .i64 pc, .int .i64 pd]] W fun e w' => e = .returned (.bool true) ∧ Below W.heap.size W w' := fun W => by
    have h := right_any pa pb pc pd W
    rw [hf] at h
    exact h
  have HR := Lib.hid hR
  have hlm := HPL.out.lenM
  obtain ⟨al, hal⟩ : ∃ l, l = Ms.length := ⟨_, rfl⟩
  have hjl : j < al := by rw [hal]; exact (List.getElem?_eq_some_iff.1 hj).1
  rw [← hal] at f5 hlm
  have HAL := Lib.hid hal
  have HJJ := Lib.hid hj
  have HMK := Lib.hid hmk
  have HML := Lib.hid hml
  have hml1 : (lnQ Ms kq).1 = m.base := by rw [← hml]; rfl
  have hml3 : (lnQ Ms kq).2.2 = m.es := by rw [← hml]; rfl
  clear hR hal hj hmk hml htb1 htb hq1 hq2
  rw [fr_lit400 f, f3, f5, f7, f8, f9, f10, f11, f79]
  conv => arg 2; whnf
  generalize hnx : ((lnQ Ms kq).1 + (lnQ Ms kq).2.2.length : Nat) = nx at *
  go_wp2_with fail
  refine HB.out.mono ?_
  rintro e w5 ⟨rfl, hm5, hc5⟩
  obtain ⟨e0, e1, e2, e3, e4, e5, e6, e7, m2, m3, m4⟩ := H.out.cells hc5 (fun q x => x)
  have HM5 := Lib.hid hm5
  have HC5 := Lib.hid hc5
  clear hm5 hc5
  dsimp only at e0 e1 e2 e3 e4 e5 e6 e7
  go_wp2_with fail
  refine (HR.out _).mono ?_
  rintro e w6 ⟨rfl, hb6⟩
  have hc6 : Chg (fun q => q < wr.heap.size) w4 w6 := HC5.out.trans (Chg.of_below hb6) (fun _ _ x => x)
  obtain ⟨e0, e1, e2, e3, e4, e5, e6, e7, m2, m3, m4⟩ := H.out.cells hc6 (fun q x => x)
  have HM6 := Lib.hid (HM5.out.new (Chg.of_below hb6))
  clear hb6 hc6 HM5 HC5
  dsimp only at e0 e1 e2 e3 e4 e5 e6 e7
  have hmod := HM6.out.mod
  obtain ⟨p0, cap0, hv0, hat⟩ := hmod.find
  cases hv0
  obtain ⟨b, rfl, hlo, hb, hfz, hcs⟩ := hat j m HJJ.out
  have hme : m ∈ Ms := List.mem_of_getElem? HJJ.out
  have hap : m.sl.ownBlock ≠ some b := fun hx => hmod.apart m hme b hx rfl
  have hes := hmod.es m hme
  have c4 : w6.cell? ⟨b, j * 5 + 4, none⟩ = some m.sl := by rw [hcs 4 (by decide)]; rfl
  have hlim : m.es.length ≤ 100000 := by
    obtain ⟨z1, z2, z3, z4⟩ := HPL.out.wfQ kq
    rw [hml3] at z4
    omega
  have HSO : Hid (∀ f' W1 vv, Chg (fun _ => False) w6 W1 → EsAt W1 lo vv (m.es ++ [⟨pa, pb, pc, pd⟩]) → (∀ q, vv.ownBlock = some q → w6.heap.size ≤ q) → f' 0 = f 0 → f' 3 = .pointer (some ⟨qb, 0, none⟩) → f' 5 = .slice (some ⟨b, 0, none⟩) al ac → f' 36 = f 36 → f' 37 = f 37 → f' 38 = f 38 → SwO f w qb k lo (Fr 400 f') (W1.setCell ⟨b, j * 5 + 4, none⟩ vv)) := Lib.hid (fun f' W1 vv h1 h2 h3 g0 g3 g5 g36 g37 g38 => by
    have hp := HM6.out.there HJJ.out HMK.out hml1.symm (by rw [← HML.out]; rfl) h1 (vv := vv) (by rw [hml3]; exact h2) h3 ((oneC_same ((h1.cell c4 (fun x => x)))).set vv)
    rw [HAL.out] at g5
    exact ⟨f', _, _, rfl, g0, g3.trans f3.symm, g36, g37, g38, g5, hp⟩)
  have HFZ := Lib.hid hfz
  have HES := Lib.hid hes
  have HAP := Lib.hid hap
  have HBB := Lib.hid hb
  have HLO := Lib.hid HM6.out.up
  clear hcs hat hes hap hfz hmod hme HB HR HPL HC H HFD HKQ m2 m3 m4 e0 e1 e2 e3 hml1 hml3
  go_upto_region 36 with fail
  rw [lit_fr400 _ rfl]
  refine r36_any _ _ m.es ⟨pa, pb, pc, pd⟩ (b := b) (j := j) (al := al) (ac := ac) (B7 := B7) (lo := lo) rfl rfl rfl hjl (by omega) HLO.out e4 e5 e6 e7 c4 HBB.out HFZ.out HES.out HAP.out hlim ?_
  intro f' W1 vv h1 h2 h3 g0 g3 g5 g36 g37 g38
  have HG := Lib.hid (HSO.out f' W1 vv h1 h2 h3 g0 g3 g5 g36 g37 g38)
  clear h1 h2 h3 g0 g3 g5 g36 g37 g38
  go_wp2_with fail
  exact HJ.out _ _ HG.out
end Go.Proofs.YtmhojpipmllphaaGreatDoor

namespace Go.Proofs.YtmhojpipmllphaaGreatDoor
open Go.RowKit Go.Deep
set_option linter.unusedVariables false
set_option linter.unusedSimpArgs false
attribute [local go_sem] fr_opt
set_option maxHeartbeats 16000000 in
set_option maxRecDepth 100000 in
theorem sw_0new (f : Nat → Value) {w wr w4 : World} {qb k lo : Nat} {vv : Value} {Ms : List MoM} {B7 B10 : Nat} {x : OpQ} {kq : QK} {i : Int} {mt : ByteArray} {mq : Int} {sl : Value} (h : SwIn f w wr w4 qb k lo vv Ms B7 B10 x kq i mt mq sl) (J : Act → World → Prop) (Q : Exit → Act → World → Prop) (hJ : ∀ a w', SwO f w qb k lo a w' → J a w') (k0 : x.k = 0) (hr : refQ x.t x.q = 0) (hf : x.p.fit = true) (hij : i = -1) (hno : ∀ m ∈ Ms, m.key ≠ kq.1) (hln : lnQ Ms kq = (0, 0, [])) :
    Code.wp Tryz.prog swC (Exit.then J Q) (Fr 400 f) w4 := by
  have H := Lib.hid h
  obtain ⟨f3, f5, f7, f8, f9, f10, f11, f79, hpl, hk, hc, hb7, hb10, _, _, _, hkq, hts, hwf, hfd⟩ := id h
  obtain ⟨e0, e1, e2, e3, e4, e5, e6, e7, m2, m3, m4⟩ := h.cells (Chg.refl (fun _ => False) w4) (fun _ x => x.elim)
  have HPL := Lib.hid hpl
  have HC := Lib.hid hc
  have HKQ := Lib.hid hkq
  have HFD := Lib.hid hfd
  have HJ := Lib.hid hJ
  clear h hJ hpl hc hkq hfd hwf hb7 hb10

  obtain ⟨xk, xq, xn, xt, ⟨pa, pb, pc, pd⟩⟩ := x
  subst hij
  dsimp only at k0 f8 f79 e0 e1 e2 e3 e4 e5 e6 e7 hts hr hf
  subst k0
  obtain ⟨htb, hq2⟩ := refQ_ok hr
  rw [hr] at f8
  obtain ⟨aa, ac, hva⟩ := HPL.out.form
  subst hva
  have htb1 : topicB kq.1.1 = true := by rw [HKQ.out]; exact htb
  have hq1 : 0 ≤ kq.1.2 ∧ kq.1.2 ≤ 2 := by rw [HKQ.out]; exact hq2
  have HB := HPL.out.add_ (by omega) HC.out kq htb1 hq1 ⟨pa, pb, pc, pd⟩ hf
  rw [HKQ.out] at HB
  have HB := Lib.hid HB
  unfold PlM.val at HB
  dsimp only at HB
  have hR : ∀ W, Calls Tryz.prog 10 #[.agg #[.int .i64 pa, .int .i64 pb, .int .i64 pc, .int .i64 pd]] W fun e w' => e = .returned (.bool true) ∧ Below W.heap.size W w' := fun W => by
    have h := right_any pa pb pc pd W
    rw [hf] at h
    exact h
  have HR := Lib.hid hR
  have hlm := HPL.out.lenM
  obtain ⟨al, hal⟩ : ∃ l, l = Ms.length := ⟨_, rfl⟩
  rw [← hal] at f5 hlm
  have HAL := Lib.hid hal
  have HNO := Lib.hid hno
  have HLN := Lib.hid hln
  clear hR hal hno hln htb1 htb hq1 hq2
  rw [fr_lit400 f, f3, f5, f7, f8, f9, f10, f11, f79]
  conv => arg 2; whnf
  generalize hnx : ((lnQ Ms kq).1 + (lnQ Ms kq).2.2.length : Nat) = nx at *
  go_wp2_with fail
  refine HB.out.mono ?_
  rintro e w5 ⟨rfl, hm5, hc5⟩
  obtain ⟨e0, e1, e2, e3, e4, e5, e6, e7, m2, m3, m4⟩ := H.out.cells hc5 (fun q x => x)
  have HM5 := Lib.hid hm5
  have HC5 := Lib.hid hc5
  clear hm5 hc5
  dsimp only at e0 e1 e2 e3 e4 e5 e6 e7
  go_wp2_with fail
  refine (HR.out _).mono ?_
  rintro e w6 ⟨rfl, hb6⟩
  have hc6 : Chg (fun q => q < wr.heap.size) w4 w6 := HC5.out.trans (Chg.of_below hb6) (fun _ _ x => x)
  obtain ⟨e0, e1, e2, e3, e4, e5, e6, e7, m2, m3, m4⟩ := H.out.cells hc6 (fun q x => x)
  have HM6 := Lib.hid (HM5.out.new (Chg.of_below hb6))
  clear hb6 hc6 HM5 HC5
  dsimp only at e0 e1 e2 e3 e4 e5 e6 e7
  obtain ⟨i0, hi, hz0, hz1, hz2⟩ := info_parts info_mo
  have hmod : w6.ownsRow lo 39 5 (.slice aa al ac) Ms.length (Ms.flatMap MoM.cells) := by
    have := HM6.out.mod.row
    rw [HAL.out]
    exact this
  have HMOD := Lib.hid hmod
  have hkt : kq.1 = (xt, xq) := HKQ.out
  have hml := HPL.out.lenM
  have hup := HM6.out.up
  have HST : Hid (∀ w9 v9 cs, (w6.alloc cs).grownBy w9 (Value.slice aa al ac).ownBlock → w9.ownsRow lo 39 5 v9 (Ms.length + 1) (Ms.flatMap MoM.cells ++ (moN xt xq 0).cells) → (∀ q, v9.ownBlock = some q → (Value.slice aa al ac).ownBlock = some q ∨ (w6.alloc cs).heap.size ≤ q) → MidI w w9 qb k lo v9 Ms (Ms ++ [moN xt xq 0]) kq (lnQ Ms kq).1 (lnQ Ms kq).2.1 ((lnQ Ms kq).2.2 ++ [⟨pa, pb, pc, pd⟩])) := Lib.hid (fun w9 v9 cs hg ho hv => by
    have hca : Chg (fun _ => False) w6 (w6.alloc cs) := Chg.alloc _ (Chg.refl _ _) _
    have h := HM6.out
    rw [HAL.out] at hg hv
    exact h.more hca (m := moN xt xq 0) rfl rfl ho hg hv)
  have HB7 : Hid (∀ w9 cs, (w6.alloc cs).grownBy w9 (Value.slice aa al ac).ownBlock → w9.cell? ⟨B7, 4, none⟩ = some (.int .i64 pa) ∧ w9.cell? ⟨B7, 5, none⟩ = some (.int .i64 pb) ∧ w9.cell? ⟨B7, 6, none⟩ = some (.int .i64 pc) ∧ w9.cell? ⟨B7, 7, none⟩ = some (.int .i64 pd)) := Lib.hid (fun w9 cs hg => by
    have hb7 := World.block_lt_of_cell? _ _ e4
    have hne : some B7 ≠ (Value.slice aa al ac).ownBlock := fun hx => by
      have h1 := (HMOD.out.lt B7 hx.symm)
      have h2 := H.out.b7
      have h3 := HPL.out.mod.lt (q := B7) (.inl (by rw [← HAL.out]; exact hx.symm))
      omega
    have hst : ∀ o v, w6.cell? ⟨B7, o, none⟩ = some v → w9.cell? ⟨B7, o, none⟩ = some v := fun o v h => by
      rw [hg.cell_far ⟨B7, o, none⟩ (by rw [World.size_alloc]; exact Nat.lt_succ_of_lt hb7) hne]
      exact ((Chg.alloc (S := fun _ => False) (Chg.refl _ _) cs).cell h (fun x => x))
    exact ⟨hst _ _ e4, hst _ _ e5, hst _ _ e6, hst _ _ e7⟩)
  clear hmod HB HR HFD m2 m3 m4 e0 e2
  go_wp2_with (at_builtin; go_must (refine wpList_append_lies _ rfl (.tmp 118) (.tmp 124) 30 rfl lo 39 i0 _ 5 64 Tryz.underlying30 hi hz0 hz1 hz2 rfl (by decide) _ Ms.length (Ms.flatMap MoM.cells) rfl (World.ownsRow.alloc HMOD.out _) ⟨w6.heap.size, 0, none⟩ 1 1 (moN xt xq 0).cells rfl rfl ?d1 (moN_one _ _ _) (by decide) ?d3 ?d4 ?d5 _ rfl ?d6))
  case d1 => exact World.news_of_block (heap_alloc_new _ _)
  case d3 => unfold maxLen; omega
  case d4 => omega
  case d5 => simp; omega
  case d6 =>
    intro g9 c9 w9 hown9 hgrow9 hg9 hlt9
    have h9 := HST.out w9 _ _ hgrow9 hown9 (fun q hq => hg9.imp (fun h => by rw [h]; exact hq) (fun h => by
      obtain rfl : g9 = q := Option.some.inj hq
      rw [h, World.size_alloc]
      exact Nat.le_refl _))
    obtain ⟨e4, e5, e6, e7⟩ := HB7.out w9 _ hgrow9
    obtain ⟨nl, hnl⟩ : ∃ n, n = Ms.length + 1 := ⟨_, rfl⟩
    have hmod9 := h9.mod
    obtain ⟨p0, cap0, hv0, hat⟩ := hmod9.find
    injection hv0 with q1 q2 q3
    obtain ⟨b, hb0, hlo, hb, hfz, hcs⟩ := hat Ms.length (moN xt xq 0) (by simp)
    rw [← q1] at hb0
    injection hb0 with hb0
    injection hb0 with hb0 _ _
    subst hb0
    have c4 : w9.cell? ⟨g9, Ms.length * 5 + 4, none⟩ = some (.slice none 0 0) := by rw [hcs 4 (by decide)]; rfl
    have HSO : Hid (∀ f' W1 vv, Chg (fun _ => False) w9 W1 → EsAt W1 lo vv ([] ++ [⟨pa, pb, pc, pd⟩]) → (∀ q, vv.ownBlock = some q → w9.heap.size ≤ q) → f' 0 = f 0 → f' 3 = .pointer (some ⟨qb, 0, none⟩) → f' 5 = .slice (some ⟨g9, 0, none⟩) nl c9 → f' 36 = f 36 → f' 37 = f 37 → f' 38 = f 38 → SwO f w qb k lo (Fr 400 f') (W1.setCell ⟨g9, Ms.length * 5 + 4, none⟩ vv)) := Lib.hid (fun f' W1 vv h1 h2 h3 y0 y3 y5 y36 y37 y38 => by
      have hp := h9.fresh HNO.out (by rw [HKQ.out]; rfl) (by rw [HLN.out]; rfl) (by rw [HLN.out]; rfl) h1 (vv := vv) (by rw [HLN.out]; exact h2) h3 ((oneC_same ((h1.cell c4 (fun x => x)))).set vv)
      rw [hnl] at y5
      exact ⟨f', _, _, rfl, y0, y3.trans f3.symm, y36, y37, y38, y5, hp⟩)
    have HFZ := Lib.hid hfz
    have HBB := Lib.hid hb
    have HLO := Lib.hid h9.up
    have HNL := Lib.hid hnl
    obtain ⟨ml, hml2⟩ : ∃ n, n = Ms.length := ⟨_, rfl⟩
    have hnl2 : nl = ml + 1 := by omega
    rw [← hml2] at c4 HSO hml
    rw [← hml2] at HNL
    have HM2 := Lib.hid hml2
    clear hcs hat hfz hmod9 h9 hown9 hgrow9 hg9 hlt9 HST HB7 HMOD HPL HC H HKQ HNO HLN HM6 m2 m3 m4 e0 e1 e2 e3 q1 q2 q3 hb hlo hnl hup hkt hi hz0 hz1 hz2 hlm
    rw [← hml2]
    clear hml2
    rw [← hnl2]
    go_upto_region 36 with fail
    rw [lit_fr400 _ rfl]
    refine r36_any _ _ [] ⟨pa, pb, pc, pd⟩ (b := g9) (j := ml) (al := nl) (ac := c9) (B7 := B7) (lo := lo) rfl rfl rfl (by omega) (by omega) HLO.out e4 e5 e6 e7 c4 HBB.out HFZ.out ⟨rfl, .inl ⟨rfl, rfl⟩⟩ (fun h => by cases h) (Nat.zero_le _) ?_
    intro f' W1 vv h1 h2 h3 y0 y3 y5 y36 y37 y38
    have HG := Lib.hid (HSO.out f' W1 vv h1 h2 h3 y0 y3 y5 y36 y37 y38)
    clear h1 h2 h3 y0 y3 y5 y36 y37 y38
    go_wp2_with fail
    exact HJ.out _ _ HG.out
end Go.Proofs.YtmhojpipmllphaaGreatDoor

namespace Go.Proofs.YtmhojpipmllphaaGreatDoor
open Go.RowKit Go.Deep
theorem sw_all (f : Nat → Value) {w wr w4 : World} {qb k lo : Nat} {vv : Value} {Ms : List MoM} {B7 B10 : Nat} {x : OpQ} {kq : QK} {i : Int} {mt : ByteArray} {mq : Int} {sl : Value} (h : SwIn f w wr w4 qb k lo vv Ms B7 B10 x kq i mt mq sl) (J : Act → World → Prop) (Q : Exit → Act → World → Prop) (hJ : ∀ a w', SwO f w qb k lo a w' → J a w') :
    Code.wp Tryz.prog swC (Exit.then J Q) (Fr 400 f) w4 := by
  refine sw_any f h J Q hJ fun k0 hr hf => ?_
  rcases h.fd with ⟨j, m, hj, hmk, hi, hs, hml⟩ | ⟨hi, hs, hno, hln⟩
  · subst hi hs
    exact sw_0there f h J Q hJ k0 hr hf hj hmk rfl hml
  · subst hi hs
    exact sw_0new f h J Q hJ k0 hr hf rfl hno hln
end Go.Proofs.YtmhojpipmllphaaGreatDoor

namespace Go.Proofs.YtmhojpipmllphaaGreatDoor
open Go.RowKit Go.Deep
set_option linter.unusedVariables false
set_option linter.unusedSimpArgs false
attribute [local go_sem] fr_opt

theorem ops_form {W : World} {v : Value} {os : List OpQ} (h : OpsQ W v os) : ∃ a cap, v = .slice a os.length cap := by
  obtain ⟨a, cap, e, _⟩ := h
  exact ⟨a, cap, e⟩
theorem ops_cells {W W' : World} {a : Option Addr} {n cap k : Nat} {os : List OpQ} {x : OpQ} (h : OpsQ W (.slice a n cap) os) (hc : Chg (fun _ => False) W W') (hk : os[k]? = some x) :
    ∃ b o, a = some ⟨b, o, none⟩ ∧ ∀ j u, x.cells[j]? = some u → W'.cell? ⟨b, o + k * 8 + j, none⟩ = some u := by
  obtain ⟨a', cap', e, h⟩ := h
  cases e
  rcases h with h | ⟨b, o, rfl, h⟩
  · rw [h] at hk; cases hk
  · refine ⟨b, o, rfl, fun j u hu => ?_⟩
    have hj : j < 8 := (List.getElem?_eq_some_iff.1 hu).1
    have := h k x hk j hj
    rw [hu] at this
    exact hc.cell this (fun x => x)
theorem plI_first {w0 w : World} {qb : Nat} {mv : Option Nat} {g : Gh} {st : St} (h : QsI w0 w qb mv g st 0 []) (hz : st.size = 0) (hc : st.cap = 1048576) : PlI w0 w qb 0 w.heap.size (.slice none 0 0) [] :=
  ⟨⟨mv, g, st, [], h, Match.nil, (fun q hq _ => by
    rcases hq with hq | ⟨m, hm, _⟩
    · cases hq
    · cases hm), Nat.le_refl _, by omega, hc⟩, modI_none _ _, h.q.disk.chg.size, Nat.le_refl _⟩
theorem set5_heap {w : World} {B : Nat} {t : TypeId} {a0 a1 a2 a3 a4 : Value} (v0 v1 v2 v3 v4 : Value) (h : w.heap[B]? = some (Obj.cells #[a0, a1, a2, a3, a4] t (0, 0))) :
    (((((w.setCell ⟨B, 0, none⟩ v0).setCell ⟨B, 1, none⟩ v1).setCell ⟨B, 2, none⟩ v2).setCell ⟨B, 3, none⟩ v3).setCell ⟨B, 4, none⟩ v4).heap[B]? = some (Obj.cells #[v0, v1, v2, v3, v4] t (0, 0)) := by
  have h0 := heap_setCell_same w B 0 _ t v0 h
  have h1 := heap_setCell_same _ B 1 _ t v1 h0
  have h2 := heap_setCell_same _ B 2 _ t v2 h1
  have h3 := heap_setCell_same _ B 3 _ t v3 h2
  have h4 := heap_setCell_same _ B 4 _ t v4 h3
  rw [h4]
  simp
theorem set5_chg {w : World} {B : Nat} (v0 v1 v2 v3 v4 : Value) : Chg (fun q => q = B) w (((((w.setCell ⟨B, 0, none⟩ v0).setCell ⟨B, 1, none⟩ v1).setCell ⟨B, 2, none⟩ v2).setCell ⟨B, 3, none⟩ v3).setCell ⟨B, 4, none⟩ v4) :=
  ((((Chg.setCell (S := fun q => q = B) (p := ⟨B, 0, none⟩) (Chg.refl _ _) (fun _ => rfl) v0).setCell (p := ⟨B, 1, none⟩) (fun _ => rfl) v1).setCell (p := ⟨B, 2, none⟩) (fun _ => rfl) v2).setCell (p := ⟨B, 3, none⟩) (fun _ => rfl) v3).setCell (p := ⟨B, 4, none⟩) (fun _ => rfl) v4
theorem cell5 {W : World} {B : Nat} {t : TypeId} {a0 a1 a2 a3 a4 : Value} (h : W.heap[B]? = some (Obj.cells #[a0, a1, a2, a3, a4] t (0, 0))) : W.cell? ⟨B, 0, none⟩ = some a0 ∧ W.cell? ⟨B, 1, none⟩ = some a1 ∧ W.cell? ⟨B, 2, none⟩ = some a2 ∧ W.cell? ⟨B, 3, none⟩ = some a3 ∧ W.cell? ⟨B, 4, none⟩ = some a4 ∧ ∀ i, W.frozen? ⟨B, i, none⟩ = false := by
  refine ⟨?_, ?_, ?_, ?_, ?_, fun i => ?_⟩ <;> simp [World.cell?, World.frozen?, h]
theorem cell8 {W : World} {B : Nat} {x : OpQ} (h : W.heap[B]? = some (oB x)) : W.cell? ⟨B, 0, none⟩ = some (.int .i64 x.k) := by
  unfold oB at h
  simp [World.cell?, h]
/-- A cut, the frame behind a letter. -/
theorem cut_fr {P : Program} {s : Code} {K : Act → World → Prop} {Q' : Exit → Act → World → Prop} {l : List Value} {w : World} (R : (Nat → Value) → Act → World → Prop) (hl : l.length = 400)
    (rest : ∀ f, (∀ t, f t = l.getD t undef) → ∀ a' w', R f a' w' → K a' w') (first : ∀ f, (∀ t, f t = l.getD t undef) → ∀ (J : Act → World → Prop), (∀ a' w', R f a' w' → J a' w') → s.wp P (Exit.then J Q') (Fr 400 f) w) : s.wp P (Exit.then K Q') ⟨l.toArray, []⟩ w := by
  rw [lit_fr400 l hl]
  exact first _ (fun _ => rfl) K (fun a' w' h => rest _ (fun _ => rfl) a' w' h)
/-- The loop's frame and world. -/
def LpI (w : World) (qb n cap lo : Nat) (a0 : Option Addr) (a : Act) (wr : World) : Prop := ∃ (f : Nat → Value) (k : Nat) (vv : Value) (Ms : List MoM), a = Fr 400 f ∧ f 3 = .pointer (some ⟨qb, 0, none⟩) ∧ f 5 = vv ∧ f 36 = .slice a0 n cap ∧ f 37 = .int .i64 (n : Int) ∧ f 38 = .int .i64 (k : Int) ∧ k ≤ n ∧ PlI w wr qb k lo vv Ms
def LpM (n0 : Nat) (a : Act) (_ : World) : Nat := n0 - (intOf (a.tmps.getD 38 undef)).toNat
set_option maxHeartbeats 16000000 in
set_option maxRecDepth 100000 in
theorem walkF_CqPlays (v : Value) (os : List OpQ) (w : World) (ht : Tab10 w) (hv : OpsQ w v os) (hm : os.length ≤ maxLen) (hwf : ∀ x ∈ os, x.wf) :
    Calls Tryz.prog 3 #[v] w fun e w' => e = .returned (.bool true) ∧ Below w.heap.size w w' := by
  have hto : ∀ w', Chg (fun _ => False) w w' → Below w.heap.size w w' := fun w' h => ⟨h.os, h.tape, h.output, h.size, fun i hi => h.block i hi (fun x => x)⟩
  have HTO := Lib.hid hto
  obtain ⟨a, cap, rfl⟩ := ops_form hv
  obtain ⟨n, hn⟩ : ∃ n, n = os.length := ⟨_, rfl⟩
  rw [← hn] at hv ⊢ hm
  unfold maxLen at hm
  have HN := Lib.hid hn
  have HV := Lib.hid hv
  have HWF := Lib.hid hwf
  have HA := Lib.hid (qawake_any w ht)
  have HT := Lib.hid ht
  clear hto hv hn hwf ht
  go_enter Tryz.func3, Tryz.ntmps3
  go_wp2_with fail
  refine HA.out.mono ?_
  rintro e w1 ⟨rfl, hc1⟩
  have HC1 := Lib.hid hc1
  clear hc1
  by_cases h100 : (100 : Int) < (n : Int)
  · go_wp2_with fail
    go_ret
    exact ⟨rfl, HTO.out _ HC1.out⟩
  have hn100 : n ≤ 100 := by omega
  have HD := Lib.hid (new_any 1048576 w1)
  go_wp2_with fail
  refine HD.out.mono ?_
  rintro e w2 ⟨rfl, hd2, hb2⟩
  have HX := Lib.hid (qfirst_new HC1.out HT.out 1048576 hd2 hb2)
  clear hd2 hb2
  go_wp2_with fail
  refine HX.out.mono ?_
  rintro e w3 ⟨qb, g3, rfl, h3⟩
  have H3 : Hid (PlI w w3 qb 0 w3.heap.size (.slice none 0 0) []) := Lib.hid (plI_first h3 rfl (by decide))
  obtain ⟨lo, hlo⟩ : ∃ lo, lo = w3.heap.size := ⟨_, rfl⟩
  rw [← hlo] at H3
  clear h3 hlo
  go_wp2_with fail
  refine wp_loop (LpI w qb n cap lo a) (LpM n) ?_ ?_
  · exact ⟨_, 0, _, [], lit_fr400 _ rfl, rfl, rfl, rfl, rfl, rfl, Nat.zero_le _, H3.out⟩
  clear H3 HX HD HA
  rintro aa wr ⟨f, k, vv, Ms, rfl, f3, f5, f36, f37, f38, hk, hpl⟩
  have HM : Hid (∀ a' w', a'.tmps.getD 38 undef = .int .i64 ((k + 1 : Nat) : Int) → k < n → LpM n a' w' < LpM n (Fr 400 f) wr) := Lib.hid fun a' w' h1 h2 => by
    have h4 : (Fr 400 f).tmps.getD 38 undef = .int .i64 (k : Int) := (fr_get (by decide)).trans f38
    unfold LpM
    rw [h1, h4]
    simp only [intOf, Int.toNat_natCast]
    omega
  obtain ⟨M0, hM0⟩ : ∃ M0, M0 = LpM n (Fr 400 f) wr := ⟨_, rfl⟩
  rw [← hM0] at HM ⊢
  have HI := Lib.hid hpl
  obtain ⟨va, vc, hvv⟩ := hpl.form
  have hlm := hpl.lenM
  clear hM0 hpl
  subst hvv
  obtain ⟨al, hal⟩ : ∃ l, l = Ms.length := ⟨_, rfl⟩
  rw [← hal] at f5 hlm HI
  have HAL := Lib.hid hal
  clear hal
  rw [fr_lit400 f, f3, f5, f36, f37, f38]
  by_cases hlt : k < n
  case neg =>
    have hltI : decide ((k : Int) < (n : Int)) = false := decide_eq_false (by omega)
    have HCw := Lib.hid HI.out.chg
    go_wp2_with fail
    go_ret
    exact ⟨rfl, HTO.out _ HCw.out⟩
  have hltI : decide ((k : Int) < (n : Int)) = true := decide_eq_true (by omega)
  obtain ⟨x, hx⟩ : ∃ x, os[k]? = some x := ⟨_, List.getElem?_eq_getElem (by rw [← HN.out]; exact hlt)⟩
  obtain ⟨b, o, rfl, hcs⟩ := ops_cells HV.out HI.out.chg hx
  have hxw := HWF.out x (List.mem_of_getElem? hx)
  have HXW := Lib.hid hxw
  obtain ⟨xk, xq, xn, xt, ⟨pa, pb, pc, pd⟩⟩ := x
  have c0 : wr.cell? ⟨b, o + k * 8, none⟩ = some (.int .i64 xk) := hcs 0 _ rfl
  have c1 := hcs 1 _ rfl
  have c2 := hcs 2 _ rfl
  have c3 := hcs 3 _ rfl
  have c4 := hcs 4 _ rfl
  have c5 := hcs 5 _ rfl
  have c6 := hcs 6 _ rfl
  have c7 := hcs 7 _ rfl
  dsimp only at c1 c2 c3 c4 c5 c6 c7
  obtain ⟨W4, hW4⟩ : ∃ W, W = wr.alloc (.cells #[.int .i64 xk, .int .i64 xq, .int .i64 xn, .string xt, .int .i64 pa, .int .i64 pb, .int .i64 pc, .int .i64 pd] 34) := ⟨_, rfl⟩
  obtain ⟨B7, hB7⟩ : ∃ B, B = wr.heap.size := ⟨_, rfl⟩
  have hc4 : Chg (fun _ => False) wr W4 := hW4 ▸ Chg.alloc _ (Chg.refl _ _) _
  have hO4 : W4.heap[B7]? = some (.cells #[.int .i64 xk, .int .i64 xq, .int .i64 xn, .string xt, .int .i64 pa, .int .i64 pb, .int .i64 pc, .int .i64 pd] 34 (0, 0)) := by rw [hW4, hB7]; exact heap_alloc_new wr _
  have e0 : W4.cell? ⟨B7, 0, none⟩ = some (.int .i64 xk) := by simp [World.cell?, hO4]
  have e1 : W4.cell? ⟨B7, 1, none⟩ = some (.int .i64 xq) := by simp [World.cell?, hO4]
  have e3 : W4.cell? ⟨B7, 3, none⟩ = some (.string xt) := by simp [World.cell?, hO4]
  have HW4 := Lib.hid hW4
  have HB7 := Lib.hid hB7
  have HC4 := Lib.hid hc4
  have HO4 := Lib.hid hO4
  have HCw := Lib.hid (HI.out.chg.trans hc4 (fun _ _ x => x))
  clear hcs hx hxw hW4 hB7 hc4 hO4
  go_upto_region 12 with fail
  rw [← HW4.out, ← HB7.out]
  clear c0 c1 c2 c3 c4 c5 c6 c7
  by_cases hs : (100 : Int) < (xt.size : Int)
  · go_wp2_with fail
    go_ret
    exact ⟨rfl, HTO.out _ HCw.out⟩
  have hs100 : xt.size ≤ 100 := by omega
  have hsm : xt.size ≤ maxLen := by unfold maxLen; omega
  have HTP := Lib.hid (refTopic_any xt W4 hsm)
  obtain ⟨rq, hrq⟩ : ∃ r, r = refQ xt xq := ⟨_, rfl⟩
  have HRQ := Lib.hid hrq
  clear hrq
  go_upto_block 2 with fail
  go_cut [8] (fun v wx => v = .int .i64 rq ∧ wx = W4)
  case first =>
    cases htp : topicB xt
    · have HT2 := HTP.out
      rw [htp] at HT2
      have HT2 := Lib.hid HT2
      have hr : rq = 11 := by rw [HRQ.out]; unfold refQ; rw [if_neg (by rw [htp]; decide)]
      go_wp2_with fail
      refine HT2.out.mono ?_
      rintro e w5 ⟨rfl, rfl⟩
      go_wp2_with fail
      go_meet
      case rel => exact ⟨by rw [hr], rfl⟩
    · have HT2 := HTP.out
      rw [htp] at HT2
      have HT2 := Lib.hid HT2
      by_cases h0 : xq < 0
      · have hr : rq = 13 := by rw [HRQ.out]; unfold refQ; rw [if_pos htp, if_neg (by omega)]
        have hd : decide (xq < 0) = true := decide_eq_true h0
        go_wp2_with fail
        refine HT2.out.mono ?_
        rintro e w5 ⟨rfl, rfl⟩
        go_wp2_with fail
        go_meet
        case rel => exact ⟨by rw [hr], rfl⟩
      · have hd : decide (xq < 0) = false := decide_eq_false h0
        by_cases h2 : 2 < xq
        · have hr : rq = 13 := by rw [HRQ.out]; unfold refQ; rw [if_pos htp, if_neg (by omega)]
          have hd2 : decide (2 < xq) = true := decide_eq_true h2
          go_wp2_with fail
          refine HT2.out.mono ?_
          rintro e w5 ⟨rfl, rfl⟩
          go_wp2_with fail
          go_meet
          case rel => exact ⟨by rw [hr], rfl⟩
        · have hr : rq = 0 := by rw [HRQ.out]; unfold refQ; rw [if_pos htp, if_pos (by omega)]
          have hd2 : decide (2 < xq) = false := decide_eq_false h2
          go_wp2_with fail
          refine HT2.out.mono ?_
          rintro e w5 ⟨rfl, rfl⟩
          go_wp2_with fail
          go_meet
          case rel => exact ⟨by rw [hr], rfl⟩
  case rest =>
  obtain ⟨rfl, rfl⟩ := hcut
  obtain ⟨kq, hkq⟩ : ∃ kq : QK, kq.1 = (xt, xq) := ⟨⟨(xt, xq), hsm, HXW.out.2.1⟩, rfl⟩
  obtain ⟨r, hf, hfd⟩ := HI.out.find_ (W := wc) (by omega) HC4.out kq
  rw [hkq] at hf
  dsimp only at hf
  have HF := Lib.hid hf
  have HKQ := Lib.hid hkq
  clear hf hkq HTP
  go_upto_region 19 with fail
  go_wp2_with fail
  refine HF.out.mono ?_
  rintro e w5 ⟨rfl, yy, rfl⟩
  obtain ⟨W5, hW5⟩ : ∃ W, W = wc.drewN yy := ⟨_, rfl⟩
  rw [← hW5]
  have hO5 : W5.heap[B7]? = some (.cells #[.int .i64 xk, .int .i64 xq, .int .i64 xn, .string xt, .int .i64 pa, .int .i64 pb, .int .i64 pc, .int .i64 pd] 34 (0, 0)) := by rw [hW5]; exact HO4.out
  have hc5 : Chg (fun _ => False) wr W5 := by rw [hW5]; exact HC4.out.drewN yy
  have HO5 := Lib.hid hO5
  have HC5 := Lib.hid hc5
  clear hW5 e0 e1 e3 hO5 hc5
  rcases hfd with ⟨j, m, hj, hmk, rfl, hml⟩ | ⟨rfl, hno, hln⟩
  · obtain ⟨p0, cap0, hv0, hat⟩ := (HI.out.mod.new HC5.out).find
    injection hv0 with q1 q2 q3
    obtain ⟨bM, hpp, hlo', hbM, hfzM, hcsM⟩ := hat j m hj
    rw [← q1] at hpp
    clear q1 q2 q3
    subst hpp
    have c0 : W5.cell? ⟨bM, j * 5, none⟩ = some (.string m.t) := hcsM 0 (by decide)
    have c1 : W5.cell? ⟨bM, j * 5 + 1, none⟩ = some (.int .i64 m.q) := hcsM 1 (by decide)
    have c2 : W5.cell? ⟨bM, j * 5 + 2, none⟩ = some (.int .i64 (m.base : Int)) := hcsM 2 (by decide)
    have c3 : W5.cell? ⟨bM, j * 5 + 3, none⟩ = some (.int .i64 (m.least : Int)) := hcsM 3 (by decide)
    have hme : m ∈ Ms := List.mem_of_getElem? hj
    have hap : m.sl.ownBlock ≠ some bM := fun hx => (HI.out.mod.new HC5.out).apart m hme bM hx rfl
    obtain ⟨pe, ce, hse, _, _⟩ := ((HI.out.mod.new HC5.out).es m hme).plc hap
    obtain ⟨el, hel⟩ : ∃ n, n = m.es.length := ⟨_, rfl⟩
    rw [← hel] at hse
    have c4 : W5.cell? ⟨bM, j * 5 + 4, none⟩ = some (.slice pe el ce) := by rw [hcsM 4 (by decide), ← hse]; rfl
    have HSE := Lib.hid hse
    have HEL := Lib.hid hel
    clear hse hel hap
    have hjl : j < al := by have := (List.getElem?_eq_some_iff.1 hj).1; have := HAL.out; omega
    have hz3 := HI.out.wfQ kq
    have hb1 : (lnQ Ms kq).1 = m.base := by rw [← hml]; rfl
    have hb2 : (lnQ Ms kq).2.1 = m.least := by rw [← hml]; rfl
    have hb3 : (lnQ Ms kq).2.2.length = el := by rw [← hml, HEL.out]; rfl
    rw [hb1, hb2, hb3] at hz3
    obtain ⟨hz1, hz2, hz3, hz4⟩ := hz3
    go_upto_region 21 with fail
    obtain ⟨W6, hW6⟩ : ∃ W, W = W5.alloc (.cells #[.string ⟨#[]⟩, .int .i64 0, .int .i64 0, .int .i64 0, .slice none 0 0] 39) := ⟨_, rfl⟩
    obtain ⟨B10, hB10⟩ : ∃ B, B = W5.heap.size := ⟨_, rfl⟩
    rw [← hW6, ← hB10]
    have hc6 : Chg (fun _ => False) W5 W6 := hW6 ▸ Chg.alloc _ (Chg.refl _ _) _
    have hx6 : W6.heap[B10]? = some (.cells #[.string ⟨#[]⟩, .int .i64 0, .int .i64 0, .int .i64 0, .slice none 0 0] 39 (0, 0)) := by rw [hW6, hB10]; exact heap_alloc_new W5 _
    have c0 := hc6.cell c0 (fun x => x)
    have c1 := hc6.cell c1 (fun x => x)
    have c2 := hc6.cell c2 (fun x => x)
    have c3 := hc6.cell c3 (fun x => x)
    have c4 := hc6.cell c4 (fun x => x)
    obtain ⟨k0, k1, k2, k3, k4, kf⟩ := cell5 hx6
    have HX6 := Lib.hid hx6
    have HC6 := Lib.hid hc6
    have hb7lt := (Array.getElem?_eq_some_iff.1 HO5.out).1
    have hlt10 := (Array.getElem?_eq_some_iff.1 hx6).1
    have HO6 := Lib.hid (hc6.heap HO5.out (fun x => x))
    have HB10 : Hid (wr.heap.size ≤ B10 ∧ B7 ≠ B10) := Lib.hid ⟨by rw [hB10]; exact HC5.out.size, by omega⟩
    have HLT : Hid (B10 < W6.heap.size) := Lib.hid hlt10
    have hw10 : wr.heap.size ≤ B10 := HB10.out.1
    clear hW6 hB10 hx6 hc6 hb7lt hlt10 hat hcsM hfzM
    go_upto_region 23 with fail
    obtain ⟨W7, hW7⟩ : ∃ W, W = ((((W6.setCell ⟨B10, 0, none⟩ (.string m.t)).setCell ⟨B10, 1, none⟩ (.int .i64 m.q)).setCell ⟨B10, 2, none⟩ (.int .i64 (m.base : Int))).setCell ⟨B10, 3, none⟩ (.int .i64 (m.least : Int))).setCell ⟨B10, 4, none⟩ (.slice pe el ce) := ⟨_, rfl⟩
    rw [← hW7]
    have hx7a : W7.heap[B10]? = some (Obj.cells #[.string m.t, .int .i64 m.q, .int .i64 (m.base : Int), .int .i64 (m.least : Int), .slice pe el ce] 39 (0, 0)) := by rw [hW7]; exact set5_heap _ _ _ _ _ HX6.out
    have hx7 : W7.heap[B10]? = some (mB m.t m.q (lnQ Ms kq).1 (lnQ Ms kq).2.1 (.slice pe el ce)) := by rw [hb1, hb2]; exact hx7a
    have hc7 : Chg (fun q => q = B10) W6 W7 := by rw [hW7]; exact set5_chg _ _ _ _ _
    have HC7 : Hid (Chg (fun _ => False) wr W7) := Lib.hid ((HC5.out.trans HC6.out (fun _ _ x => x)).trans hc7 (fun q hq hx => absurd hq (by omega)))
    have HO7 : Hid (W7.heap[B7]? = some (oB ⟨xk, xq, xn, xt, ⟨pa, pb, pc, pd⟩⟩)) := Lib.hid (hc7.heap HO6.out (fun hx => HB10.out.2 hx))
    obtain ⟨_, _, m2, _, m4, _⟩ := cell5 hx7a
    clear hx7a
    have o0 : W7.cell? ⟨B7, 0, none⟩ = some (.int .i64 xk) := cell8 HO7.out
    have HX7 := Lib.hid hx7
    have HFD : Hid (Found wr lo Ms kq (j : Int) (.slice pe el ce)) := Lib.hid (.inl ⟨j, m, hj, hmk, rfl, HSE.out.symm, hml⟩)
    have HSUM : Hid (Value.int .i64 ((m.base : Int) + (el : Int)) = .int .i64 (((lnQ Ms kq).1 + (lnQ Ms kq).2.2.length : Nat) : Int)) := Lib.hid (by rw [hb1, hb3]; congr 1)
    clear hW7 hx7 hc7 c0 c1 c2 c3 c4 k0 k1 k2 k3 k4 kf hb1 hb2 hb3 hml hmk hj HX6 HC6 HO6 HO5 HC5 HSE HEL
    go_upto_block 3 with fail
    refine cut_fr (fun f => SwO f w qb k lo) rfl ?_ ?_
    · rintro f9 h9 a' w5 ⟨f2, vv2, Ms2, rfl, g0, g3, g36, g37, g38, g5, hp2⟩
      have g3 : f2 3 = .pointer (some ⟨qb, 0, none⟩) := g3.trans (h9 3)
      have g36 : f2 36 = .slice (some ⟨b, o, none⟩) n cap := g36.trans (h9 36)
      have g37 : f2 37 = .int .i64 (n : Int) := g37.trans (h9 37)
      have g38 : f2 38 = .int .i64 (k : Int) := g38.trans (h9 38)
      clear g0 m2 m4 o0
      go_step
      refine tl_any f2 hp2 (by omega) g3 g5 _ ?_
      intro fz W hp z0 z3 z5 z36 z37 z38
      rw [g3] at z3
      rw [g5] at z5
      rw [g36] at z36
      rw [g37] at z37
      rw [g38] at z38
      have HP := Lib.hid hp
      clear hp hp2 g3 g5 g36 g37 g38 z0
      obtain ⟨vp, vcap, hv2⟩ := HP.out.form
      subst hv2
      rw [fr_lit400 fz, z3, z5, z36, z37, z38]
      go_wp2_with fail
      refine ⟨⟨_, k + 1, _, Ms2, lit_fr400 _ rfl, rfl, rfl, rfl, rfl, ?_, by omega, HP.out⟩, ?_⟩
      · show Value.int .i64 _ = _
        go_num
      · exact HM.out _ _ (by show Value.int .i64 _ = _; go_num) hlt
    · intro f9 h9 J hJ
      refine sw_all (x := ⟨xk, xq, xn, xt, ⟨pa, pb, pc, pd⟩⟩) (kq := kq) (i := (j : Int)) (mt := m.t) (mq := m.q) (sl := .slice pe el ce) (wr := wr) (w4 := W7) (vv := .slice (some ⟨bM, 0, none⟩) al vc) (Ms := Ms) (B7 := B7) (B10 := B10) f9 ⟨h9 3, h9 5, h9 7, (h9 8).trans (by rw [← HRQ.out]; rfl), h9 9, h9 10, (h9 11).trans HSUM.out, h9 79, HI.out, by omega, HC7.out, by rw [HB7.out]; exact Nat.le_refl _, HB10.out.1, HO7.out, HX7.out, HB10.out.2, HKQ.out, hs100, HXW.out, HFD.out⟩ J _ hJ
  · go_upto_region 21 with fail
    obtain ⟨W7, hW7⟩ : ∃ W, W = W5.alloc (.cells #[.string ⟨#[]⟩, .int .i64 0, .int .i64 0, .int .i64 0, .slice none 0 0] 39) := ⟨_, rfl⟩
    obtain ⟨B10, hB10⟩ : ∃ B, B = W5.heap.size := ⟨_, rfl⟩
    rw [← hW7, ← hB10]
    have hc6 : Chg (fun _ => False) W5 W7 := hW7 ▸ Chg.alloc _ (Chg.refl _ _) _
    have hx7 : W7.heap[B10]? = some (.cells #[.string ⟨#[]⟩, .int .i64 0, .int .i64 0, .int .i64 0, .slice none 0 0] 39 (0, 0)) := by rw [hW7, hB10]; exact heap_alloc_new W5 _
    have hb7lt := (Array.getElem?_eq_some_iff.1 HO5.out).1
    have HB10 : Hid (wr.heap.size ≤ B10 ∧ B7 ≠ B10) := Lib.hid ⟨by rw [hB10]; exact HC5.out.size, by omega⟩
    have HC7 : Hid (Chg (fun _ => False) wr W7) := Lib.hid (HC5.out.trans hc6 (fun _ _ x => x))
    have HO7 : Hid (W7.heap[B7]? = some (oB ⟨xk, xq, xn, xt, ⟨pa, pb, pc, pd⟩⟩)) := Lib.hid (hc6.heap HO5.out (fun x => x))
    obtain ⟨_, _, m2, _, m4, _⟩ := cell5 hx7
    have o0 : W7.cell? ⟨B7, 0, none⟩ = some (.int .i64 xk) := cell8 HO7.out
    have HX7 : Hid (W7.heap[B10]? = some (mB ⟨#[]⟩ 0 (lnQ Ms kq).1 (lnQ Ms kq).2.1 (.slice none 0 0))) := Lib.hid (by rw [hln]; exact hx7)
    have HFD : Hid (Found wr lo Ms kq (-1) (.slice none 0 0)) := Lib.hid (.inr ⟨rfl, rfl, hno, hln⟩)
    have HSUM : Hid (Value.int .i64 0 = .int .i64 (((lnQ Ms kq).1 + (lnQ Ms kq).2.2.length : Nat) : Int)) := Lib.hid (by rw [hln]; rfl)
    clear hW7 hB10 hx7 hc6 hb7lt HO5 HC5 hno hln
    go_upto_block 3 with fail
    refine cut_fr (fun f => SwO f w qb k lo) rfl ?_ ?_
    · rintro f9 h9 a' w5 ⟨f2, vv2, Ms2, rfl, g0, g3, g36, g37, g38, g5, hp2⟩
      have g3 : f2 3 = .pointer (some ⟨qb, 0, none⟩) := g3.trans (h9 3)
      have g36 : f2 36 = .slice (some ⟨b, o, none⟩) n cap := g36.trans (h9 36)
      have g37 : f2 37 = .int .i64 (n : Int) := g37.trans (h9 37)
      have g38 : f2 38 = .int .i64 (k : Int) := g38.trans (h9 38)
      clear g0 m2 m4 o0
      go_step
      refine tl_any f2 hp2 (by omega) g3 g5 _ ?_
      intro fz W hp z0 z3 z5 z36 z37 z38
      rw [g3] at z3
      rw [g5] at z5
      rw [g36] at z36
      rw [g37] at z37
      rw [g38] at z38
      have HP := Lib.hid hp
      clear hp hp2 g3 g5 g36 g37 g38 z0
      obtain ⟨vp, vcap, hv2⟩ := HP.out.form
      subst hv2
      rw [fr_lit400 fz, z3, z5, z36, z37, z38]
      go_wp2_with fail
      refine ⟨⟨_, k + 1, _, Ms2, lit_fr400 _ rfl, rfl, rfl, rfl, rfl, ?_, by omega, HP.out⟩, ?_⟩
      · show Value.int .i64 _ = _
        go_num
      · exact HM.out _ _ (by show Value.int .i64 _ = _; go_num) hlt
    · intro f9 h9 J hJ
      refine sw_all (x := ⟨xk, xq, xn, xt, ⟨pa, pb, pc, pd⟩⟩) (kq := kq) (i := (-1)) (mt := ⟨#[]⟩) (mq := 0) (sl := .slice none 0 0) (wr := wr) (w4 := W7) (vv := .slice va al vc) (Ms := Ms) (B7 := B7) (B10 := B10) f9 ⟨h9 3, h9 5, h9 7, (h9 8).trans (by rw [← HRQ.out]; rfl), h9 9, h9 10, (h9 11).trans HSUM.out, h9 79, HI.out, by omega, HC7.out, by rw [HB7.out]; exact Nat.le_refl _, HB10.out.1, HO7.out, HX7.out, HB10.out.2, HKQ.out, hs100, HXW.out, HFD.out⟩ J _ hJ
end Go.Proofs.YtmhojpipmllphaaGreatDoor

