/-
  Part 29: what the statement needs of these texts: UTbP, UTbW.
-/
import Derived.BigQuiet
import Derived.ChangeSame
import Derived.Deep.AppendLies
import Derived.Deep.AppendSrc
import Derived.Deep.DeepCutAuto
import Derived.Deep.DeepMust
import Derived.Deep.Grids
import Derived.Deep.OwnRows
import Derived.Deep.QuietTactic
import Derived.Deep.RegionHeld3
import Derived.Deep.RegionLaw
import Derived.IntWalk
import Derived.Laws.BitsAllLaws
import Derived.Laws.CopyOwn
import Derived.Laws.OwnMore
import Derived.Laws.PanicsMore
import Derived.Laws.Rows
import Derived.Laws.StructEq
import Derived.Lib.AppendStr
import Derived.Lib.AppendZerosOnto
import Derived.Lib.BufferRead
import Derived.Lib.BufferWrite
import Derived.Lib.Hide
import Derived.Lib.OthersKept
import Derived.Lib.SmallJoins
import Derived.Maps.AppendAt
import Derived.Maps.OwnSet
import Derived.Maps.RangeWalk
import Derived.OpenShut
import Derived.Orders
import Derived.ProofKit
import Derived.Shelf.Slices.In.SortNone
import Derived.Shelf.Sort.Plain
import Derived.Shelf.Strings.Prefix
import Derived.SliceStrings
import Derived.Sort.OwnSorted
import Derived.StillTailTactics
import Derived.StringKeys
import Derived.Test.YtcdoicndpecfiaaProg
import Derived.Test.YtcdoicndpecfiaaRows
import Derived.WalkKit
import Derived.WalkLawsBesides
import Derived.WalkSmall
import Derived.WalkSpells
import Derived.Test.YtcdoicndpecfiaaUt1
import Derived.Test.YtcdoicndpecfiaaUt2
import Derived.Test.YtcdoicndpecfiaaUt3
import Derived.Test.YtcdoicndpecfiaaUt4
import Derived.Test.YtcdoicndpecfiaaUt5
import Derived.Test.YtcdoicndpecfiaaUt6
import Derived.Test.YtcdoicndpecfiaaUt7
import Derived.Test.YtcdoicndpecfiaaUt8
import Derived.Test.YtcdoicndpecfiaaUt9
import Derived.Test.YtcdoicndpecfiaaUt10
import Derived.Test.YtcdoicndpecfiaaUt11
import Derived.Test.YtcdoicndpecfiaaUt12
import Derived.Test.YtcdoicndpecfiaaUt13
import Derived.Test.YtcdoicndpecfiaaUt14
import Derived.Test.YtcdoicndpecfiaaUt15
import Derived.Test.YtcdoicndpecfiaaUt16
import Derived.Test.YtcdoicndpecfiaaUt17
import Derived.Test.YtcdoicndpecfiaaUt18
import Derived.Test.YtcdoicndpecfiaaUt19
import Derived.Test.YtcdoicndpecfiaaUt20
import Derived.Test.YtcdoicndpecfiaaUt21
import Derived.Test.YtcdoicndpecfiaaUt22
import Derived.Test.YtcdoicndpecfiaaUt23
import Derived.Test.YtcdoicndpecfiaaUt24
import Derived.Test.YtcdoicndpecfiaaUt25
import Derived.Test.YtcdoicndpecfiaaUt26
import Derived.Test.YtcdoicndpecfiaaUt27
import Derived.Test.YtcdoicndpecfiaaUt28
namespace Go.Proofs.Ytcdoicndpecfiaa
open Go.RowKit Go.Deep
set_option linter.unusedVariables false
set_option linter.unusedSimpArgs false

def thB (nm : ByteArray) (l : TL) : Bool := l.any fun t => (t.1.toList == nm.toList)
theorem thB_step (nm : ByteArray) (l : TL) {j : Nat} {x : ByteArray × Int} (hx : l[j]? = some x) : thB nm (l.take (j + 1)) = (thB nm (l.take j) || (x.1.toList == nm.toList)) := by
  have hk := (List.getElem?_eq_some_iff.1 hx).1
  have : l[j] = x := (List.getElem?_eq_some_iff.1 hx).2
  unfold thB
  rw [List.take_succ_eq_append_getElem hk, List.any_append, this]
  simp
theorem thB_place (nm : ByteArray) (l : TL) : thB nm l = true ↔ 0 ≤ placeI l nm := by
  unfold thB
  rw [List.any_eq_true]
  constructor
  · rintro ⟨t, ht, h⟩
    rcases placeI_spec l nm with ⟨_, h2⟩ | ⟨j, x, h1, _⟩
    · exact absurd (toList_inj.1 h) (h2 t ht)
    · rw [h1]; omega
  · intro h
    rcases placeI_spec l nm with ⟨h1, _⟩ | ⟨j, x, _, h2, h3⟩
    · rw [h1] at h; exact absurd h (by decide)
    · exact ⟨x, List.mem_of_getElem? h2, toList_inj.2 h3⟩
def mnF (ask : ByteArray) (m : Int) (t : ByteArray × Int) : Int := if (t.1.toList == ask.toList) = true then t.2 else m
def mnI (ask : ByteArray) (l : TL) : Int := l.foldl (mnF ask) 0
theorem mnI_step (ask : ByteArray) (l : TL) {j : Nat} {x : ByteArray × Int} (hx : l[j]? = some x) : mnI ask (l.take (j + 1)) = if (x.1.toList == ask.toList) = true then x.2 else mnI ask (l.take j) := by
  have hk := (List.getElem?_eq_some_iff.1 hx).1
  have : l[j] = x := (List.getElem?_eq_some_iff.1 hx).2
  unfold mnI
  rw [List.take_succ_eq_append_getElem hk, List.foldl_append, this]
  rfl
theorem mnF_none (ask : ByteArray) (l : TL) (m : Int) (h : ∀ t ∈ l, t.1 ≠ ask) : l.foldl (mnF ask) m = m := by
  induction l generalizing m with
  | nil => rfl
  | cons t l ih =>
    rw [List.foldl_cons]
    have : mnF ask m t = m := by unfold mnF; rw [if_neg (fun e => h t (List.mem_cons_self ..) (toList_inj.1 e))]
    rw [this]
    exact ih m fun y hy => h y (List.mem_cons_of_mem _ hy)
theorem mn_que {l : TL} (h : (l.map (·.1)).Nodup) (ask : ByteArray) : queI l ask = if isOwn ask = true then 1 else mnI ask l := by
  unfold queI
  split
  · rfl
  · rcases placeI_spec l ask with ⟨h1, h2⟩ | ⟨j, x, h1, h2, h3⟩
    · rw [h1]
      unfold mnI
      rw [mnF_none ask l 0 h2]
      rfl
    · rw [h1]
      have e : (match ((j : Nat) : Int) with
        | .ofNat j => (match l[j]? with | some x => x.2 | none => 0)
        | _ => 0) = x.2 := by
        show (match l[j]? with | some x => x.2 | none => 0) = x.2
        rw [h2]
      refine e.trans ?_
      obtain ⟨l1, l2, hl⟩ := List.append_of_mem (List.mem_of_getElem? h2)
      rw [hl, List.map_append, List.map_cons, List.nodup_append, List.nodup_cons] at h
      obtain ⟨_, ⟨h5, _⟩, h4⟩ := h
      unfold mnI
      rw [hl, List.foldl_append, List.foldl_cons]
      have e1 : mnF ask (l1.foldl (mnF ask) 0) x = x.2 := by unfold mnF; rw [if_pos (toList_inj.2 h3)]
      rw [e1, mnF_none]
      intro t ht e
      exact h5 (by rw [h3, ← e]; exact List.mem_map_of_mem ht)
theorem of_empty (s : ByteArray) : (ofB s).toList.isEmpty = !isOwn s := by
  have hx : ∀ h : ByteArray, ownB s h = true → (s.extract h.size s.size).toList.isEmpty = false := fun h ho => by
    unfold ownB at ho
    rw [Bool.and_eq_true] at ho
    have h1 : 1 ≤ (s.extract h.size s.size).size := (okL_iff.1 ho.2).1
    rw [List.isEmpty_eq_false_iff]
    intro e
    have h2 := Oc.ba_toList (s.extract h.size s.size)
    rw [e] at h2
    rw [← h2] at h1
    exact absurd h1 (by decide)
  have hr : retryH.size = 7 := rfl
  have hd : deadH.size = 6 := rfl
  unfold ofB isOwn
  cases h1 : ownB s retryH with
  | true =>
    have := hx retryH h1
    rw [hr] at this
    rw [if_pos rfl, this]
    rfl
  | false =>
    rw [if_neg (by simp)]
    cases h2 : ownB s deadH with
    | true =>
      have := hx deadH h2
      rw [hd] at this
      rw [if_pos rfl, this]
      rfl
    | false =>
      rw [if_neg (by simp)]
      simp

/-- The table, and the law's own list. -/
def TaI (w wr : World) (d tb n : Nat) (L M : TL) (sv : Value) : Prop :=
  ∃ g st v, NewI w wr g st tb v L ∧ Alone n st L ∧ TRow wr sv M ∧ (∀ q, sv.ownBlock = some q → w.heap.size ≤ q ∧ ¬ TabS g tb v q) ∧ g.d = d
theorem TaI.new {w wr wr' : World} {d tb n : Nat} {L M : TL} {sv : Value} (h : TaI w wr d tb n L M sv) (hc : Chg (fun _ => False) wr wr') : TaI w wr' d tb n L M sv := by
  obtain ⟨g, st, v, a1, a2, a3, a4, a5⟩ := h
  exact ⟨g, st, v, a1.new hc, a2, a3.chg hc (fun _ _ e => e), a4, a5⟩
theorem TaI.below {w wr : World} {d tb n : Nat} {L M : TL} {sv : Value} (h : TaI w wr d tb n L M sv) : Below w.heap.size w wr := by
  obtain ⟨g, st, v, a1, _⟩ := h
  exact a1.below
theorem TaI.row {w wr : World} {d tb n : Nat} {L M : TL} {sv : Value} (h : TaI w wr d tb n L M sv) : TRow wr sv M := by
  obtain ⟨g, st, v, _, _, a3, _⟩ := h
  exact a3
theorem TaI.ok {w wr : World} {d tb n : Nat} {L M : TL} {sv : Value} (h : TaI w wr d tb n L M sv) : TOk L := by
  obtain ⟨g, st, v, _, a2, _⟩ := h
  exact a2.ok
theorem tabS_lt {w : World} {g : Gh} {st : St} {tb : Nat} {v : Value} {l : TL} (h : TabI w g st tb v l) {k : Nat} (hk : TabS g tb v k) : k < w.heap.size := by
  rcases hk with hk | hk | hk
  · exact h.disk.lt k hk
  · rw [hk]; exact h.tbl.lt
  · exact h.row.lt k hk
theorem TaI.add {w wr : World} {d tb n : Nat} {L M : TL} {sv : Value} (h : TaI w wr d tb n L M sv) (hn : n ≤ 900000) (nm : ByteArray) (q : Int) (hm : nm.size ≤ 1000) :
    Calls Try.prog 10 #[.pointer (some ⟨tb, 0, none⟩), .string nm, .int .i64 q] wr fun e w' => e = .returned (.int .i64 (refE L nm q)) ∧ TaI w w' d tb (n + 2) (if refE L nm q = 0 then L ++ [(nm, q)] else L) M sv := by
  obtain ⟨g, st, v, a1, a2, a3, a4, a5⟩ := h
  obtain ⟨b1, b2, b3⟩ := a2.add nm q
  refine (add_alone nm q a1 a2 hn hm).mono ?_
  rintro e w' ⟨he, g', v', h1, h2⟩
  rw [b3] at b1
  refine ⟨he, g', _, v', h1, b1, a3.on h2 (fun q hq => (a4 q hq).2), fun q hq => ⟨(a4 q hq).1, fun hs => ?_⟩, h2.d.trans a5⟩
  have hlt := a3.lt q hq
  rcases hs with hs | hs | hs
  · rcases h2.fp q hs with x | x
    · exact (a4 q hq).2 (.inl x)
    · omega
  · exact (a4 q hq).2 (.inr (.inl hs))
  · rcases h2.own q hs with x | x
    · exact (a4 q hq).2 (.inr (.inr x))
    · omega
theorem TaI.app {w wr wr' : World} {d tb n : Nat} {L M : TL} {sv sv' : Value} {x : ByteArray × Int} (h : TaI w wr d tb n L M sv) (ha : AppT wr sv M x sv' wr') : TaI w wr' d tb n L (M ++ [x]) sv' := by
  obtain ⟨g, st, v, a1, a2, a3, a4, a5⟩ := h
  have hc : Chg (fun k => sv.ownBlock = some k) wr wr' := Chg.of_grown ha.grown (fun k hk _ => hk)
  have hno : ∀ k, TabS g tb v k → ¬ sv.ownBlock = some k := fun k hk e => (a4 k e).2 hk
  refine ⟨g, st, v, ⟨⟨a1.tab.disk.chg hc (fun k hk => hno k (.inl hk)), a1.tab.tbl.chg hc (hno tb (.inr (.inl rfl))), a1.tab.row.chg hc (fun k hk => hno k (.inr (.inr hk))), a1.tab.outT, a1.tab.outV⟩, a1.chg.trans hc (fun i hi e => by have := (a4 i e).1; omega), a1.low⟩, a2, ha.row, fun q hq => ?_, a5⟩
  rcases ha.own with e | e
  · exact a4 q (e ▸ hq)
  · rw [e] at hq
    injection hq with hq
    have := a1.chg.size
    refine ⟨by omega, fun hs => ?_⟩
    have := tabS_lt a1.tab hs
    omega
/-- The same, beside a block of the law's own. -/
def TaJ (w wr : World) (d tb n : Nat) (L M : TL) (sv : Value) (eb : Nat) : Prop :=
  ∃ g st v, NewI w wr g st tb v L ∧ Alone n st L ∧ TRow wr sv M ∧ (∀ q, sv.ownBlock = some q → w.heap.size ≤ q ∧ ¬ TabS g tb v q) ∧ g.d = d ∧ eb < wr.heap.size ∧ ¬ TabS g tb v eb
theorem TaI.box {w wr : World} {d tb n : Nat} {L M : TL} {sv : Value} (h : TaI w wr d tb n L M sv) (o : Obj) : TaJ w (wr.alloc o) d tb n L M sv wr.heap.size := by
  have hc : Chg (fun _ => False) wr (wr.alloc o) := Chg.of_below ((Below.refl _ _).alloc (Nat.le_refl _) _)
  obtain ⟨g, st, v, a1, a2, a3, a4, a5⟩ := h
  exact ⟨g, st, v, a1.new hc, a2, a3.chg hc (fun _ _ e => e), a4, a5, by rw [World.size_alloc]; omega, fun hs => by have := tabS_lt a1.tab hs; omega⟩
theorem TaJ.new {w wr wr' : World} {d tb n eb : Nat} {L M : TL} {sv : Value} (h : TaJ w wr d tb n L M sv eb) (hc : Chg (fun _ => False) wr wr') : TaJ w wr' d tb n L M sv eb := by
  obtain ⟨g, st, v, a1, a2, a3, a4, a5, a6, a7⟩ := h
  exact ⟨g, st, v, a1.new hc, a2, a3.chg hc (fun _ _ e => e), a4, a5, Nat.lt_of_lt_of_le a6 hc.size, a7⟩
theorem TaJ.add {w wr : World} {d tb n eb : Nat} {L M : TL} {sv : Value} (h : TaJ w wr d tb n L M sv eb) (hn : n ≤ 900000) (nm : ByteArray) (q : Int) (hm : nm.size ≤ 1000) :
    Calls Try.prog 10 #[.pointer (some ⟨tb, 0, none⟩), .string nm, .int .i64 q] wr fun e w' => e = .returned (.int .i64 (refE L nm q)) ∧ TaI w w' d tb (n + 2) (if refE L nm q = 0 then L ++ [(nm, q)] else L) M sv ∧ ∀ i u, wr.cell? ⟨eb, i, none⟩ = some u → w'.cell? ⟨eb, i, none⟩ = some u := by
  obtain ⟨g, st, v, a1, a2, a3, a4, a5, a6, a7⟩ := h
  obtain ⟨b1, b2, b3⟩ := a2.add nm q
  refine (add_alone nm q a1 a2 hn hm).mono ?_
  rintro e w' ⟨he, g', v', h1, h2⟩
  rw [b3] at b1
  refine ⟨he, ⟨g', _, v', h1, b1, a3.on h2 (fun q hq => (a4 q hq).2), fun q hq => ⟨(a4 q hq).1, fun hs => ?_⟩, h2.d.trans a5⟩, fun i u hc => h2.chg.cell hc a7⟩
  have hlt := a3.lt q hq
  rcases hs with hs | hs | hs
  · rcases h2.fp q hs with x | x
    · exact (a4 q hq).2 (.inl x)
    · omega
  · exact (a4 q hq).2 (.inr (.inl hs))
  · rcases h2.own q hs with x | x
    · exact (a4 q hq).2 (.inr (.inr x))
    · omega
/-- What the law wants of Add. -/
theorem ref_plain {L : TL} {nm : ByteArray} {q : Int} (h : plainB nm = false) : refE L nm q = 11 := by unfold refE; rw [if_neg (by rw [h]; simp)]
theorem ref_arg {L : TL} {nm : ByteArray} {q : Int} (h : plainB nm = true) (hq : q < 1 ∨ 3 < q) : refE L nm q = 1 := by unfold refE; rw [if_pos h, if_pos hq]
theorem ref_there {L : TL} {nm : ByteArray} {q : Int} (h : plainB nm = true) (h1 : ¬ q < 1) (h3 : ¬ 3 < q) (ht : thB nm L = true) : refE L nm q = 10 := by unfold refE; rw [if_pos h, if_neg (by omega), if_pos ((thB_place nm L).1 ht)]
theorem ref_long {L : TL} {nm : ByteArray} {q : Int} (h : plainB nm = true) (h1 : ¬ q < 1) (h3 : ¬ 3 < q) (ht : thB nm L = false) (hl : L.length = 6) : refE L nm q = 6 := by
  unfold refE; rw [if_pos h, if_neg (by omega), if_neg (fun e => by rw [(thB_place nm L).2 e] at ht; cases ht), if_pos (by omega)]
theorem ref_ok {L : TL} {nm : ByteArray} {q : Int} (h : plainB nm = true) (h1 : ¬ q < 1) (h3 : ¬ 3 < q) (ht : thB nm L = false) (hl : L.length < 6) : refE L nm q = 0 := by
  unfold refE; rw [if_pos h, if_neg (by omega), if_neg (fun e => by rw [(thB_place nm L).2 e] at ht; cases ht), if_neg (by omega)]
end Go.Proofs.Ytcdoicndpecfiaa

namespace Go.Proofs.Ytcdoicndpecfiaa
open Go.RowKit Go.Deep
set_option linter.unusedVariables false
set_option linter.unusedSimpArgs false

set_option maxRecDepth 100000 in
set_option maxHeartbeats 16000000 in
theorem walk_TopicTables (v : Value) (os : TL) (ask : ByteArray) (qu : Int) (w : World) (hv : OpTs w v os) (hol : os.length ≤ maxLen) (_ht : True) (hask : ask.size ≤ maxLen) (hqu : (Lit.int .i64 qu).wf = true) :
    Calls Try.prog 3 #[v, .string ask, .int .i64 qu] w fun e w' => e = .returned (.bool true) ∧ Below w.heap.size w w' := by
  clear hqu _ht
  obtain ⟨a, cap, rfl⟩ : ∃ a cap, v = .slice a os.length cap := by obtain ⟨a, c, e, _⟩ := hv; exact ⟨a, c, e⟩
  obtain ⟨n, hn⟩ : ∃ n, n = os.length := ⟨_, rfl⟩
  rw [← hn] at hv hol ⊢
  have HV : Hid (∀ W, Below w.heap.size w W → OpTs W (.slice a n cap) os) := Lib.hid (fun W hW => hv.below hW)
  have HN := Lib.hid hn
  have HMS := Lib.hid hask
  have hn64 : (n : Int) ≤ 9223372036854775807 := by unfold maxLen at hol; omega
  have ha64 : (ask.size : Int) ≤ 9223372036854775807 := by unfold maxLen at hask; omega
  clear hv hn hol hask
  by_cases h40 : 40 < n
  · have h40' : (40 : Int) < (n : Int) := by omega
    clear h40
    go_enter Try.func3, Try.ntmps3
    go_wp2_with fail
    refine (awake_u w).mono ?_
    rintro e w1 ⟨rfl, hb1⟩
    have HB1 := Lib.hid hb1
    clear hb1
    go_wp2_with fail
    go_ret
    exact ⟨rfl, HB1.out⟩
  · have h40' : ¬ (40 : Int) < (n : Int) := by omega
    have hn40 : n ≤ 40 := by omega
    clear h40
    by_cases h100 : 100 < ask.size
    · have h100' : (100 : Int) < (ask.size : Int) := by omega
      clear h100
      go_enter Try.func3, Try.ntmps3
      go_wp2_with fail
      refine (awake_u w).mono ?_
      rintro e w1 ⟨rfl, hb1⟩
      have HB1 := Lib.hid hb1
      clear hb1
      go_wp2_with fail
      go_ret
      exact ⟨rfl, HB1.out⟩
    · have h100' : ¬ (100 : Int) < (ask.size : Int) := by omega
      clear h100
      go_enter Try.func3, Try.ntmps3
      go_wp2_with fail
      refine (awake_u w).mono ?_
      rintro e w1 ⟨rfl, hb1⟩
      have HB1 := Lib.hid hb1
      clear hb1
      go_wp2_with fail
      refine (new_any 10000 w1).mono ?_
      rintro e w2 ⟨rfl, hd2, hb2⟩
      obtain ⟨d, hd⟩ : ∃ d, d = w1.heap.size := ⟨_, rfl⟩
      have hc2 : Chg (fun _ => False) w w2 := (Chg.of_below HB1.out).trans (Chg.of_below hb2) (fun _ _ e => e)
      have a0 := Alone.new 10000 (by decide) (by decide)
      have hO := open_alone (w0 := w) (g := ⟨w1.heap.size, none, []⟩) hd2 hc2 (fun k hk => by have := HB1.out.size; simp [Gh.fp] at hk; omega) a0.saved a0.ok rfl
      rw [← hd] at hO
      have HO := Lib.hid hO
      have HDD := Lib.hid hd
      have HA0 := Lib.hid a0
      clear hd2 hb2 hc2 a0 hO hd
      go_wp2_with fail
      rw [← HDD.out]
      refine HO.out.mono ?_
      rintro e w3 ⟨_, tb, v3, rfl, _, _, h3⟩
      have HI3 : Hid (TaI w w3 d tb 0 [] [] (.slice none 0 0)) := Lib.hid ⟨_, _, v3, h3, HA0.out, TRow.nil _, fun q hq => (by cases hq), rfl⟩
      clear h3 HO HA0
      go_wp2_with fail
      go_loopw [10, 47] (fun sv i wr => ∃ (k : Nat) (L : TL) (sa : Option Addr) (ln sc : Nat), k ≤ n ∧ i = .int .i64 (k : Int) ∧ sv = .slice sa ln sc ∧ ln ≤ 6 ∧ Hid (ln = L.length) ∧ Hid (TaI w wr d tb (2 * k) L L (.slice sa ln sc))) (fun _ i _ => n - (intOf i).toNat)
      case atStart => exact ⟨0, [], none, 0, 0, Nat.zero_le _, rfl, rfl, by decide, Lib.hid rfl, HI3⟩
      case round =>
        obtain ⟨k, L, sa, ln, sc, hk, rfl, rfl, hln, HLN, HI⟩ := hrel
        by_cases hlt : k < n
        · obtain ⟨x, hx⟩ : ∃ x, os[k]? = some x := ⟨_, List.getElem?_eq_getElem (by rw [← HN.out]; exact hlt)⟩
          obtain ⟨b, o, hbo, c0, c1⟩ := (HV.out wr HI.out.below).at_ hx
          obtain ⟨x1, x2⟩ := x
          dsimp only at c0 c1
          subst hbo
          clear hx
          obtain ⟨w5, hw5⟩ : ∃ w5, w5 = wr.alloc (.cells #[.string x1, .int .i64 x2] 31) := ⟨_, rfl⟩
          obtain ⟨eb, heb⟩ : ∃ eb, eb = wr.heap.size := ⟨_, rfl⟩
          have hb5 : Below wr.heap.size wr w5 := by rw [hw5]; exact (Below.refl _ _).alloc (Nat.le_refl _) _
          have e0 : w5.cell? ⟨eb, 0, none⟩ = some (.string x1) := by rw [hw5, heb]; simp [go_sem]
          have e1 : w5.cell? ⟨eb, 1, none⟩ = some (.int .i64 x2) := by rw [hw5, heb]; simp [go_sem]
          have HE : Hid (∀ W, Below w5.heap.size w5 W → W.cell? ⟨eb, 0, none⟩ = some (.string x1) ∧ W.cell? ⟨eb, 1, none⟩ = some (.int .i64 x2)) := Lib.hid (fun W hW => ⟨ukeep hW e0, ukeep hW e1⟩)
          have HI5 := Lib.hid (HI.out.new (Chg.of_below hb5))
          have HJ5 : Hid (TaJ w w5 d tb (2 * k) L L (.slice sa ln sc) eb) := Lib.hid (by rw [hw5, heb]; exact HI.out.box _)
          have HW5 := Lib.hid hw5
          have HEB := Lib.hid heb
          clear hw5 heb hb5
          by_cases hbig : 100 < x1.size
          · have hbig' : (100 : Int) < (x1.size : Int) := by omega
            clear hbig
            go_upto_region 13 with fail
            rw [← HW5.out, ← HEB.out]
            go_wp2_with fail
            go_ret
            exact ⟨rfl, HI5.out.below⟩
          · have hbig' : ¬ (100 : Int) < (x1.size : Int) := by omega
            have hx1 : x1.size ≤ 1000 := by omega
            clear hbig
            go_upto_region 13 with fail
            rw [← HW5.out, ← HEB.out]
            go_wp2_with fail
            go_loopw [14, 57] (fun th i wr2 => ∃ (j : Nat) (tq : Bool), j ≤ ln ∧ i = .int .i64 (j : Int) ∧ th = .bool tq ∧ Hid (tq = thB x1 (L.take j)) ∧ Hid (Below w5.heap.size w5 wr2)) (fun _ i _ => ln - (intOf i).toNat)
            case atStart => exact ⟨0, false, Nat.zero_le _, rfl, rfl, Lib.hid rfl, Lib.hid (Below.refl _ _)⟩
            case round =>
              obtain ⟨j, tq, hj, rfl, rfl, HT, HB⟩ := hrel
              by_cases hjl : j < ln
              · obtain ⟨y, hy⟩ : ∃ y, L[j]? = some y := ⟨_, List.getElem?_eq_getElem (by rw [← HLN.out]; exact hjl)⟩
                have hI := HI5.out.new (Chg.of_below HB.out)
                obtain ⟨gs, rfl, cs0, cs1⟩ : ∃ gs, sa = some ⟨gs, 0, none⟩ ∧ wr.cell? ⟨gs, j * 2, none⟩ = some (.string y.1) ∧ wr.cell? ⟨gs, j * 2 + 1, none⟩ = some (.int .i64 y.2) := by
                  rcases hI.row.form with ⟨_, e⟩ | ⟨g, c, e, _, _, _, hc⟩
                  · rw [e] at hy; cases hy
                  · injection e with e1
                    exact ⟨g, e1, hc j y hy⟩
                have hst := thB_step x1 L hy
                obtain ⟨y1, y2⟩ := y
                dsimp only at cs0 cs1 hst
                obtain ⟨bq, hbq⟩ : ∃ bq, bq = (y1.toList == x1.toList) := ⟨_, rfl⟩
                rw [← hbq, ← HT.out] at hst
                obtain ⟨f0, f1⟩ := HE.out wr HB.out
                obtain ⟨w7, hw7⟩ : ∃ w7, w7 = wr.alloc (.cells #[.string y1, .int .i64 y2] 31) := ⟨_, rfl⟩
                have hb7 : Below wr.heap.size wr w7 := by rw [hw7]; exact (Below.refl _ _).alloc (Nat.le_refl _) _
                have g0 := ukeep hb7 f0
                have g1 : w7.cell? ⟨wr.heap.size, 0, none⟩ = some (.string y1) := by rw [hw7]; simp [go_sem]
                have HB7 := Lib.hid (ubelow_on hb7 HB.out (Nat.le_refl _))
                have HST := Lib.hid hst
                have HW7 := Lib.hid hw7
                have HBQ := Lib.hid hbq.symm
                clear hI hst hbq hw7 hb7 hy f1
                cases tq with
                | true =>
                  go_upto_region 20 with fail
                  rw [← HW7.out]
                  go_wp2_with fail
                  exact ⟨⟨j + 1, true, by omega, by go_num, rfl, Lib.hid (by rw [HST.out]; rfl), HB7⟩, by simp [intOf]; omega⟩
                | false =>
                  go_upto_region 20 with fail
                  rw [← HW7.out]
                  go_wp2_with fail
                  exact ⟨⟨j + 1, bq, by omega, by go_num, by rw [HBQ.out], Lib.hid (by rw [HST.out]; simp), HB7⟩, by simp [intOf]; omega⟩
              · have hjn : j = ln := by omega
                have htq : tq = thB x1 L := by rw [HT.out, hjn, HLN.out, List.take_length]
                have HTQ := Lib.hid htq
                obtain ⟨f0, f1⟩ := HE.out wr HB.out
                have HI6 := Lib.hid (HI5.out.new (Chg.of_below HB.out))
                have HAD : Hid (∀ r, refE L x1 x2 = r → Calls Try.prog 10 #[.pointer (some ⟨tb, 0, none⟩), .string x1, .int .i64 x2] wr fun e w' => e = .returned (.int .i64 r) ∧ TaI w w' d tb (2 * k + 2) (if refE L x1 x2 = 0 then L ++ [(x1, x2)] else L) L (.slice sa ln sc)) := Lib.hid (fun r hr => by
                  have := HI6.out.add (by omega) x1 x2 hx1
                  rw [← hr]
                  exact this)
                obtain ⟨pb, hpb⟩ : ∃ pb, pb = plainB x1 := ⟨_, rfl⟩
                have hpl := refPlain_any x1 wr (by unfold maxLen; omega)
                rw [← hpb] at hpl
                have HPL := Lib.hid hpl
                have HPB := Lib.hid hpb.symm
                clear hjn htq hpl hpb
                cases pb with
                | false =>
                  have hr := ref_plain (L := L) (q := x2) HPB.out
                  have HA1 := Lib.hid (HAD.out 11 hr)
                  have HR := Lib.hid hr
                  clear hr HAD
                  go_wp2_with fail
                  refine HPL.out.mono ?_
                  rintro e w8 ⟨rfl, rfl⟩
                  go_wp2_with fail
                  refine HA1.out.mono ?_
                  rintro e w8 ⟨rfl, h8⟩
                  rw [HR.out, if_neg (by decide)] at h8
                  have H8 := Lib.hid h8
                  clear h8
                  go_wp2_with fail
                  exact ⟨⟨k + 1, L, sa, ln, sc, by omega, by go_num, rfl, hln, HLN, H8⟩, by simp [intOf]; omega⟩
                | true =>
                  by_cases hq : x2 < 1 ∨ 3 < x2
                  · have hr := ref_arg (L := L) HPB.out hq
                    have HA1 := Lib.hid (HAD.out 1 hr)
                    have HR := Lib.hid hr
                    clear hr HAD
                    rcases hq with hq | hq
                    all_goals
                      go_wp2_with fail
                      refine HPL.out.mono ?_
                      rintro e w8 ⟨rfl, rfl⟩
                      go_wp2_with fail
                      refine HA1.out.mono ?_
                      rintro e w8 ⟨rfl, h8⟩
                      rw [HR.out, if_neg (by decide)] at h8
                      have H8 := Lib.hid h8
                      clear h8
                      go_wp2_with fail
                      exact ⟨⟨k + 1, L, sa, ln, sc, by omega, by go_num, rfl, hln, HLN, H8⟩, by simp [intOf]; omega⟩
                  · have hq1 : ¬ x2 < 1 := fun h => hq (.inl h)
                    have hq3 : ¬ 3 < x2 := fun h => hq (.inr h)
                    clear hq
                    cases tq with
                    | true =>
                      have hr := ref_there HPB.out hq1 hq3 HTQ.out.symm
                      have HA1 := Lib.hid (HAD.out 10 hr)
                      have HR := Lib.hid hr
                      clear hr HAD
                      go_wp2_with fail
                      refine HPL.out.mono ?_
                      rintro e w8 ⟨rfl, rfl⟩
                      go_wp2_with fail
                      refine HA1.out.mono ?_
                      rintro e w8 ⟨rfl, h8⟩
                      rw [HR.out, if_neg (by decide)] at h8
                      have H8 := Lib.hid h8
                      clear h8
                      go_wp2_with fail
                      exact ⟨⟨k + 1, L, sa, ln, sc, by omega, by go_num, rfl, hln, HLN, H8⟩, by simp [intOf]; omega⟩
                    | false =>
                      by_cases h6 : ln = 6
                      · have hr := ref_long HPB.out hq1 hq3 HTQ.out.symm (by rw [← HLN.out]; exact h6)
                        have HA1 := Lib.hid (HAD.out 6 hr)
                        have HR := Lib.hid hr
                        have h6b : ((ln : Int) == 6) = true := by simp; omega
                        clear hr HAD h6
                        go_wp2_with fail
                        refine HPL.out.mono ?_
                        rintro e w8 ⟨rfl, rfl⟩
                        go_wp2_with fail
                        refine HA1.out.mono ?_
                        rintro e w8 ⟨rfl, h8⟩
                        rw [HR.out, if_neg (by decide)] at h8
                        have H8 := Lib.hid h8
                        clear h8
                        go_wp2_with fail
                        exact ⟨⟨k + 1, L, sa, ln, sc, by omega, by go_num, rfl, hln, HLN, H8⟩, by simp [intOf]; omega⟩
                      · have hr := ref_ok HPB.out hq1 hq3 HTQ.out.symm (by rw [← HLN.out]; omega)
                        have HA1 := Lib.hid (HAD.out 0 hr)
                        have HR := Lib.hid hr
                        have h6b : ((ln : Int) == 6) = false := by simp; omega
                        have hJ := ((HJ5.out.new (Chg.of_below HB.out)).add (by omega) x1 x2 hx1)
                        rw [hr, if_pos rfl] at hJ
                        have HJ := Lib.hid hJ
                        clear hr HAD h6 hJ HA1
                        go_wp2_with fail
                        refine HPL.out.mono ?_
                        rintro e w8 ⟨rfl, rfl⟩
                        go_wp2_with fail
                        refine HJ.out.mono ?_
                        rintro e w8 ⟨rfl, h8, hk8⟩
                        have p0 := hk8 0 _ f0
                        have p1 := hk8 1 _ f1
                        have hbA : Below w8.heap.size w8 (w8.alloc (.cells #[.string x1, .int .i64 x2] 31)) := (Below.refl _ _).alloc (Nat.le_refl _) _
                        have h8A := h8.new (Chg.of_below hbA)
                        obtain ⟨sv', w9, hrun, hA⟩ := app_topic (w := w8.alloc (.cells #[.string x1, .int .i64 x2] 31)) (x1, x2) (q := w8.heap.size) (c := 1) h8A.row (by rw [← HLN.out]; omega) (by simp [go_sem]) (by simp [go_sem]) 22
                        have h9 := h8A.app hA
                        obtain ⟨sa', sc', hsv⟩ := hA.row.len
                        have hl9 : (L ++ [(x1, x2)]).length = ln + 1 := by rw [List.length_append, ← HLN.out]; rfl
                        rw [hl9] at hsv
                        subst hsv
                        have H9 := Lib.hid h9
                        have HRUN := Lib.hid hrun
                        have HL9 := Lib.hid hl9
                        have hln5 : ln + 1 ≤ 6 := by
                          have := h9.ok.len
                          rw [hl9] at this
                          exact this
                        clear h8 hk8 hbA h8A hA h9 hrun hl9
                        go_wp2_with (at_builtin; refine Lib.wpList_append_run _ rfl _ _ _ _ rfl _ _ rfl rfl _ _ HRUN.out ?_)
                        go_wp2_with fail
                        exact ⟨⟨k + 1, L ++ [(x1, x2)], sa', ln + 1, sc', by omega, by go_num, rfl, hln5, Lib.hid HL9.out.symm, H9⟩, by simp [intOf]; omega⟩
        · have hkn : k = n := by omega
          obtain ⟨g, st, v, a1, a2, a3, a4, a5⟩ := HI.out
          have HA1 := Lib.hid a1
          have HA2 := Lib.hid a2
          have HA3 := Lib.hid a3
          have HA5 := Lib.hid a5
          have HOK := Lib.hid a2.ok
          obtain ⟨mq, hmq⟩ : ∃ mq, mq = queI L ask := ⟨_, rfl⟩
          have hmn := mn_que a2.ok.apart ask
          rw [← hmq] at hmn
          obtain ⟨ow, how⟩ : ∃ ow, ow = isOwn ask := ⟨_, rfl⟩
          have hoe := of_empty ask
          rw [← how] at hmn hoe
          have HRO : Hid (∀ W, Calls Try.prog 11 #[.string ask] W fun e w' => e = .returned (.string (ofB ask)) ∧ W = w') := Lib.hid (fun W => refOf_any ask W HMS.out)
          obtain ⟨os2, hos2⟩ : ∃ os2, os2 = ofB ask := ⟨_, rfl⟩
          rw [← hos2] at HRO hoe
          obtain ⟨ce, hce⟩ : ∃ ce, ce = chkE L ask qu := ⟨_, rfl⟩
          have hce2 : ce = if mq = 0 then 12 else if qu < 0 ∨ mq ≤ qu then 13 else 0 := by rw [hce, hmq]; rfl
          have HQU : Hid (∀ W tb2 v2, THead W tb2 v2 L → Calls Try.prog 13 #[.pointer (some ⟨tb2, 0, none⟩), .string ask] W fun e w' => e = .returned (.int .i64 mq) ∧ Below W.heap.size W w') := Lib.hid (fun W tb2 v2 h => by
            have := queues_any ask h (by have := HOK.out.len; omega) HMS.out
            rw [← hmq] at this
            exact this)
          have HCH : Hid (∀ W tb2 v2, THead W tb2 v2 L → Calls Try.prog 14 #[.pointer (some ⟨tb2, 0, none⟩), .string ask, .int .i64 qu] W fun e w' => e = .returned (.int .i64 ce) ∧ Below W.heap.size W w') := Lib.hid (fun W tb2 v2 h => by
            have := check_any ask qu h (by have := HOK.out.len; omega) HMS.out
            rw [← hce] at this
            exact this)
          have HAL : Hid (∀ W tb2 v2, THead W tb2 v2 L → Calls Try.prog 12 #[.pointer (some ⟨tb2, 0, none⟩)] W (Clone2 W L)) := Lib.hid (fun W tb2 v2 h => all2_topics h (by have := HOK.out.len; omega))
          have HMN := Lib.hid hmn
          have HCE := Lib.hid hce2
          have HOE := Lib.hid hoe
          clear hkn a1 a2 a3 a4 a5 hmq hmn how hoe hos2 hce hce2
          go_wp2_with fail
          go_loopw [17, 107] (fun mv i wr2 => ∃ (j : Nat) (mj : Int), j ≤ ln ∧ i = .int .i64 (j : Int) ∧ mv = .int .i64 mj ∧ Hid (mj = mnI ask (L.take j)) ∧ Hid (Below wr.heap.size wr wr2)) (fun _ i _ => ln - (intOf i).toNat)
          case atStart => exact ⟨0, 0, Nat.zero_le _, rfl, rfl, Lib.hid rfl, Lib.hid (Below.refl _ _)⟩
          case round =>
            obtain ⟨j, mj, hj, rfl, rfl, HT, HB⟩ := hrel
            by_cases hjl : j < ln
            · obtain ⟨y, hy⟩ : ∃ y, L[j]? = some y := ⟨_, List.getElem?_eq_getElem (by rw [← HLN.out]; exact hjl)⟩
              obtain ⟨gs, rfl, cs0, cs1⟩ : ∃ gs, sa = some ⟨gs, 0, none⟩ ∧ wr.cell? ⟨gs, j * 2, none⟩ = some (.string y.1) ∧ wr.cell? ⟨gs, j * 2 + 1, none⟩ = some (.int .i64 y.2) := by
                rcases (HA3.out.new HB.out).form with ⟨_, e⟩ | ⟨g, c, e, _, _, _, hc⟩
                · rw [e] at hy; cases hy
                · injection e with e1
                  exact ⟨g, e1, hc j y hy⟩
              have hst := mnI_step ask L hy
              obtain ⟨y1, y2⟩ := y
              dsimp only at cs0 cs1 hst
              obtain ⟨bq, hbq⟩ : ∃ bq, bq = (y1.toList == ask.toList) := ⟨_, rfl⟩
              rw [← hbq, ← HT.out] at hst
              obtain ⟨w7, hw7⟩ : ∃ w7, w7 = wr.alloc (.cells #[.string y1, .int .i64 y2] 31) := ⟨_, rfl⟩
              have hb7 : Below wr.heap.size wr w7 := by rw [hw7]; exact (Below.refl _ _).alloc (Nat.le_refl _) _
              have g1 : w7.cell? ⟨wr.heap.size, 0, none⟩ = some (.string y1) := by rw [hw7]; simp [go_sem]
              have g2 : w7.cell? ⟨wr.heap.size, 1, none⟩ = some (.int .i64 y2) := by rw [hw7]; simp [go_sem]
              have HB7 := Lib.hid (ubelow_on hb7 HB.out (Nat.le_refl _))
              have HST := Lib.hid hst
              have HW7 := Lib.hid hw7
              have hbqe := hbq.symm
              clear hst hbq hw7 hb7 hy
              cases bq with
              | true =>
                go_upto_region 39 with fail
                rw [← HW7.out]
                go_wp2_with fail
                exact ⟨⟨j + 1, y2, by omega, by go_num, rfl, Lib.hid (by rw [HST.out]; simp), HB7⟩, by simp [intOf]; omega⟩
              | false =>
                go_upto_region 39 with fail
                rw [← HW7.out]
                go_wp2_with fail
                exact ⟨⟨j + 1, mj, by omega, by go_num, rfl, Lib.hid (by rw [HST.out]; simp), HB7⟩, by simp [intOf]; omega⟩
            · have hjn : j = ln := by omega
              have hmj : mj = mnI ask L := by rw [HT.out, hjn, HLN.out, List.take_length]
              have HMJ := Lib.hid hmj
              have h0 := HA1.out.new (Chg.of_below HB.out)
              have HN0 := Lib.hid h0
              have hrow := HA3.out.new HB.out
              have HR0 := Lib.hid hrow
              have ho := open_alone (w0 := w) h0.tab.disk h0.chg (fun k hk => h0.low k (.inl hk)) HA2.out.saved HOK.out HA2.out.ease.down
              rw [HA5.out] at ho
              have HO2 := Lib.hid ho
              clear hjn hmj h0 hrow ho
              cases ow with
              | true =>
                have hmq : mq = 1 := by rw [HMN.out, if_pos rfl]
                subst hmq
                have hoe := HOE.out
                simp only [Bool.not_true] at hoe
                have hce : ce = if qu < 0 ∨ 1 ≤ qu then 13 else 0 := by rw [HCE.out, if_neg (by decide)]
                by_cases hq : qu < 0 ∨ 1 ≤ qu
                · rw [if_pos hq] at hce
                  subst hce
                  rcases hq with hq | hq
                  all_goals
                    go_wp2_with fail
                    refine (HRO.out _).mono ?_
                    rintro e w6 ⟨rfl, rfl⟩
                    go_wp2_with fail
                    refine HO2.out.mono ?_
                    rintro e w7 ⟨hb7, tb2, v2, rfl, _, _, h7⟩
                    have hh1 := (HN0.out.new (Chg.of_below hb7)).tab.head
                    have hh2 := h7.tab.head
                    have hh3 := HR0.out.new hb7
                    obtain ⟨w8, hw8⟩ : ∃ w8, w8 = w7.alloc (.cells #[.pointer (some ⟨tb, 0, none⟩), .pointer (some ⟨tb2, 0, none⟩)] 26) := ⟨_, rfl⟩
                    obtain ⟨ab, hab⟩ : ∃ ab, ab = w7.heap.size := ⟨_, rfl⟩
                    have hb8 : Below w7.heap.size w7 w8 := by rw [hw8]; exact (Below.refl _ _).alloc (Nat.le_refl _) _
                    have q0 : w8.cell? ⟨ab, 0, none⟩ = some (.pointer (some ⟨tb, 0, none⟩)) := by rw [hw8, hab]; simp [go_sem]
                    have q1 : w8.cell? ⟨ab, 1, none⟩ = some (.pointer (some ⟨tb2, 0, none⟩)) := by rw [hw8, hab]; simp [go_sem]
                    have HH : Hid (∀ W, Below w8.heap.size w8 W → THead W tb v L ∧ THead W tb2 v2 L ∧ TRow W (.slice sa ln sc) L ∧ W.cell? ⟨ab, 0, none⟩ = some (.pointer (some ⟨tb, 0, none⟩)) ∧ W.cell? ⟨ab, 1, none⟩ = some (.pointer (some ⟨tb2, 0, none⟩))) := Lib.hid (fun W hW => ⟨(hh1.new hb8).new hW, (hh2.new hb8).new hW, (hh3.new hb8).new hW, ukeep hW q0, ukeep hW q1⟩)
                    have HF8 : Hid (∀ W, Below w8.heap.size w8 W → Below w.heap.size w W) := Lib.hid (fun W hW => by
                      have h1 : Below w.heap.size w w8 := h7.below.trans (hb8.mono h7.below.size)
                      exact h1.trans (hW.mono h1.size))
                    have HW8 := Lib.hid hw8
                    have HAB := Lib.hid hab
                    clear hb7 h7 hh1 hh2 hh3 hw8 hab hb8 q0 q1
                    go_upto_region 53 with fail
                    rw [← HAB.out, ← HW8.out]
                    go_loopw [143] (fun i wr2 => ∃ j : Nat, j ≤ 2 ∧ i = .int .i64 (j : Int) ∧ Hid (Below w8.heap.size w8 wr2)) (fun i _ => 2 - (intOf i).toNat)
                    case atStart => exact ⟨0, by decide, rfl, Lib.hid (Below.refl _ _)⟩
                    case round =>
                      obtain ⟨j, hj, rfl, HB9⟩ := hrel
                      obtain ⟨k1, k2, k3, r0, r1⟩ := HH.out _ HB9.out
                      have HK1 := Lib.hid k1
                      have HK2 := Lib.hid k2
                      have HK3 := Lib.hid k3
                      clear k1 k2 k3
                      rcases (show j = 0 ∨ j = 1 ∨ j = 2 by omega) with rfl | rfl | rfl
                      · have HX := Lib.hid (HAL.out _ tb v HK1.out)
                        go_wp2_with fail
                        refine HX.out.mono ?_
                        rintro e w10 ⟨gv, rfl, m1, m2, _⟩
                        obtain ⟨ga, gc, hgv⟩ := m1.len
                        rw [← HLN.out] at hgv
                        subst hgv
                        have HG1 := Lib.hid m1
                        have HB10 := Lib.hid (ubelow_on m2 HB9.out (Nat.le_refl _))
                        have HQ1 := Lib.hid (HQU.out w10 tb v (HK1.out.new m2))
                        clear m1 m2
                        go_wp2_with fail
                        refine HQ1.out.mono ?_
                        rintro e w11 ⟨rfl, hb11⟩
                        have HB11 := Lib.hid (ubelow_on hb11 HB10.out (Nat.le_refl _))
                        have HG2 := Lib.hid (HG1.out.new hb11)
                        have HC1 := Lib.hid (HCH.out w11 tb v (HH.out w11 HB11.out).1)
                        clear hb11
                        go_wp2_with fail
                        refine HC1.out.mono ?_
                        rintro e w12 ⟨rfl, hb12⟩
                        have HB12 := Lib.hid (ubelow_on hb12 HB11.out (Nat.le_refl _))
                        have HG3 := Lib.hid (HG2.out.new hb12)
                        have HS3 := Lib.hid (HH.out w12 HB12.out).2.2.1
                        clear hb12
                        go_wp2_with fail
                        go_loopw [171] (fun i wr2 => ∃ p : Nat, p ≤ ln ∧ i = .int .i64 (p : Int) ∧ Hid (TRow wr2 (.slice ga ln gc) L) ∧ Hid (TRow wr2 (.slice sa ln sc) L) ∧ Hid (Below w8.heap.size w8 wr2)) (fun i _ => ln - (intOf i).toNat)
                        case atStart => exact ⟨0, Nat.zero_le _, rfl, HG3, HS3, HB12⟩
                        case round =>
                          obtain ⟨p, hp, rfl, HUq, HRq, HBq⟩ := hrel
                          by_cases hpl : p < ln
                          · obtain ⟨x, hx⟩ : ∃ x, L[p]? = some x := ⟨_, List.getElem?_eq_getElem (by rw [← HLN.out]; exact hpl)⟩
                            obtain ⟨gu, rfl, cu0, cu1⟩ : ∃ gu, ga = some ⟨gu, 0, none⟩ ∧ wr.cell? ⟨gu, p * 2, none⟩ = some (.string x.1) ∧ wr.cell? ⟨gu, p * 2 + 1, none⟩ = some (.int .i64 x.2) := by
                              rcases HUq.out.form with ⟨_, e⟩ | ⟨g, c, e, _, _, _, hc⟩
                              · rw [e] at hx; cases hx
                              · injection e with e1
                                exact ⟨g, e1, hc p x hx⟩
                            obtain ⟨gr, rfl, cr0, cr1⟩ : ∃ gr, sa = some ⟨gr, 0, none⟩ ∧ wr.cell? ⟨gr, p * 2, none⟩ = some (.string x.1) ∧ wr.cell? ⟨gr, p * 2 + 1, none⟩ = some (.int .i64 x.2) := by
                              rcases HRq.out.form with ⟨_, e⟩ | ⟨g, c, e, _, _, _, hc⟩
                              · rw [e] at hx; cases hx
                              · injection e with e1
                                exact ⟨g, e1, hc p x hx⟩
                            obtain ⟨x1, x2⟩ := x
                            try dsimp only at cu0 cu1 cr0 cr1
                            have hpn : (p : Int) < (ln : Int) := by omega
                            clear hx
                            go_wp2_with fail
                            go_quiet (fail)
                            go_wp2_with fail
                            exact ⟨⟨p + 1, by omega, by go_num, Lib.hid (HUq.out.chg ((Chg.refl (fun _ => False) _).drewN _) (fun _ _ e => e)), Lib.hid (HRq.out.chg ((Chg.refl (fun _ => False) _).drewN _) (fun _ _ e => e)), Lib.hid (below_drewN HBq.out _)⟩, by simp [intOf]; omega⟩
                          · go_wp2_with fail
                            exact ⟨⟨1, by decide, rfl, HBq⟩, by decide⟩
                      · have HX := Lib.hid (HAL.out _ tb2 v2 HK2.out)
                        go_wp2_with fail
                        refine HX.out.mono ?_
                        rintro e w10 ⟨gv, rfl, m1, m2, _⟩
                        obtain ⟨ga, gc, hgv⟩ := m1.len
                        rw [← HLN.out] at hgv
                        subst hgv
                        have HG1 := Lib.hid m1
                        have HB10 := Lib.hid (ubelow_on m2 HB9.out (Nat.le_refl _))
                        have HQ1 := Lib.hid (HQU.out w10 tb2 v2 (HK2.out.new m2))
                        clear m1 m2
                        go_wp2_with fail
                        refine HQ1.out.mono ?_
                        rintro e w11 ⟨rfl, hb11⟩
                        have HB11 := Lib.hid (ubelow_on hb11 HB10.out (Nat.le_refl _))
                        have HG2 := Lib.hid (HG1.out.new hb11)
                        have HC1 := Lib.hid (HCH.out w11 tb2 v2 (HH.out w11 HB11.out).2.1)
                        clear hb11
                        go_wp2_with fail
                        refine HC1.out.mono ?_
                        rintro e w12 ⟨rfl, hb12⟩
                        have HB12 := Lib.hid (ubelow_on hb12 HB11.out (Nat.le_refl _))
                        have HG3 := Lib.hid (HG2.out.new hb12)
                        have HS3 := Lib.hid (HH.out w12 HB12.out).2.2.1
                        clear hb12
                        go_wp2_with fail
                        go_loopw [171] (fun i wr2 => ∃ p : Nat, p ≤ ln ∧ i = .int .i64 (p : Int) ∧ Hid (TRow wr2 (.slice ga ln gc) L) ∧ Hid (TRow wr2 (.slice sa ln sc) L) ∧ Hid (Below w8.heap.size w8 wr2)) (fun i _ => ln - (intOf i).toNat)
                        case atStart => exact ⟨0, Nat.zero_le _, rfl, HG3, HS3, HB12⟩
                        case round =>
                          obtain ⟨p, hp, rfl, HUq, HRq, HBq⟩ := hrel
                          by_cases hpl : p < ln
                          · obtain ⟨x, hx⟩ : ∃ x, L[p]? = some x := ⟨_, List.getElem?_eq_getElem (by rw [← HLN.out]; exact hpl)⟩
                            obtain ⟨gu, rfl, cu0, cu1⟩ : ∃ gu, ga = some ⟨gu, 0, none⟩ ∧ wr.cell? ⟨gu, p * 2, none⟩ = some (.string x.1) ∧ wr.cell? ⟨gu, p * 2 + 1, none⟩ = some (.int .i64 x.2) := by
                              rcases HUq.out.form with ⟨_, e⟩ | ⟨g, c, e, _, _, _, hc⟩
                              · rw [e] at hx; cases hx
                              · injection e with e1
                                exact ⟨g, e1, hc p x hx⟩
                            obtain ⟨gr, rfl, cr0, cr1⟩ : ∃ gr, sa = some ⟨gr, 0, none⟩ ∧ wr.cell? ⟨gr, p * 2, none⟩ = some (.string x.1) ∧ wr.cell? ⟨gr, p * 2 + 1, none⟩ = some (.int .i64 x.2) := by
                              rcases HRq.out.form with ⟨_, e⟩ | ⟨g, c, e, _, _, _, hc⟩
                              · rw [e] at hx; cases hx
                              · injection e with e1
                                exact ⟨g, e1, hc p x hx⟩
                            obtain ⟨x1, x2⟩ := x
                            try dsimp only at cu0 cu1 cr0 cr1
                            have hpn : (p : Int) < (ln : Int) := by omega
                            clear hx
                            go_wp2_with fail
                            go_quiet (fail)
                            go_wp2_with fail
                            exact ⟨⟨p + 1, by omega, by go_num, Lib.hid (HUq.out.chg ((Chg.refl (fun _ => False) _).drewN _) (fun _ _ e => e)), Lib.hid (HRq.out.chg ((Chg.refl (fun _ => False) _).drewN _) (fun _ _ e => e)), Lib.hid (below_drewN HBq.out _)⟩, by simp [intOf]; omega⟩
                          · go_wp2_with fail
                            exact ⟨⟨2, by decide, rfl, HBq⟩, by decide⟩
                      · go_wp2_with fail
                        go_ret
                        exact ⟨rfl, HF8.out _ HB9.out⟩
                · rw [if_neg hq] at hce
                  subst hce
                  have hq1 : ¬ qu < 0 := fun h => hq (.inl h)
                  have hq2 : ¬ 1 ≤ qu := fun h => hq (.inr h)
                  clear hq
                  go_wp2_with fail
                  refine (HRO.out _).mono ?_
                  rintro e w6 ⟨rfl, rfl⟩
                  go_wp2_with fail
                  refine HO2.out.mono ?_
                  rintro e w7 ⟨hb7, tb2, v2, rfl, _, _, h7⟩
                  have hh1 := (HN0.out.new (Chg.of_below hb7)).tab.head
                  have hh2 := h7.tab.head
                  have hh3 := HR0.out.new hb7
                  obtain ⟨w8, hw8⟩ : ∃ w8, w8 = w7.alloc (.cells #[.pointer (some ⟨tb, 0, none⟩), .pointer (some ⟨tb2, 0, none⟩)] 26) := ⟨_, rfl⟩
                  obtain ⟨ab, hab⟩ : ∃ ab, ab = w7.heap.size := ⟨_, rfl⟩
                  have hb8 : Below w7.heap.size w7 w8 := by rw [hw8]; exact (Below.refl _ _).alloc (Nat.le_refl _) _
                  have q0 : w8.cell? ⟨ab, 0, none⟩ = some (.pointer (some ⟨tb, 0, none⟩)) := by rw [hw8, hab]; simp [go_sem]
                  have q1 : w8.cell? ⟨ab, 1, none⟩ = some (.pointer (some ⟨tb2, 0, none⟩)) := by rw [hw8, hab]; simp [go_sem]
                  have HH : Hid (∀ W, Below w8.heap.size w8 W → THead W tb v L ∧ THead W tb2 v2 L ∧ TRow W (.slice sa ln sc) L ∧ W.cell? ⟨ab, 0, none⟩ = some (.pointer (some ⟨tb, 0, none⟩)) ∧ W.cell? ⟨ab, 1, none⟩ = some (.pointer (some ⟨tb2, 0, none⟩))) := Lib.hid (fun W hW => ⟨(hh1.new hb8).new hW, (hh2.new hb8).new hW, (hh3.new hb8).new hW, ukeep hW q0, ukeep hW q1⟩)
                  have HF8 : Hid (∀ W, Below w8.heap.size w8 W → Below w.heap.size w W) := Lib.hid (fun W hW => by
                    have h1 : Below w.heap.size w w8 := h7.below.trans (hb8.mono h7.below.size)
                    exact h1.trans (hW.mono h1.size))
                  have HW8 := Lib.hid hw8
                  have HAB := Lib.hid hab
                  clear hb7 h7 hh1 hh2 hh3 hw8 hab hb8 q0 q1
                  go_upto_region 53 with fail
                  rw [← HAB.out, ← HW8.out]
                  go_loopw [143] (fun i wr2 => ∃ j : Nat, j ≤ 2 ∧ i = .int .i64 (j : Int) ∧ Hid (Below w8.heap.size w8 wr2)) (fun i _ => 2 - (intOf i).toNat)
                  case atStart => exact ⟨0, by decide, rfl, Lib.hid (Below.refl _ _)⟩
                  case round =>
                    obtain ⟨j, hj, rfl, HB9⟩ := hrel
                    obtain ⟨k1, k2, k3, r0, r1⟩ := HH.out _ HB9.out
                    have HK1 := Lib.hid k1
                    have HK2 := Lib.hid k2
                    have HK3 := Lib.hid k3
                    clear k1 k2 k3
                    rcases (show j = 0 ∨ j = 1 ∨ j = 2 by omega) with rfl | rfl | rfl
                    · have HX := Lib.hid (HAL.out _ tb v HK1.out)
                      go_wp2_with fail
                      refine HX.out.mono ?_
                      rintro e w10 ⟨gv, rfl, m1, m2, _⟩
                      obtain ⟨ga, gc, hgv⟩ := m1.len
                      rw [← HLN.out] at hgv
                      subst hgv
                      have HG1 := Lib.hid m1
                      have HB10 := Lib.hid (ubelow_on m2 HB9.out (Nat.le_refl _))
                      have HQ1 := Lib.hid (HQU.out w10 tb v (HK1.out.new m2))
                      clear m1 m2
                      go_wp2_with fail
                      refine HQ1.out.mono ?_
                      rintro e w11 ⟨rfl, hb11⟩
                      have HB11 := Lib.hid (ubelow_on hb11 HB10.out (Nat.le_refl _))
                      have HG2 := Lib.hid (HG1.out.new hb11)
                      have HC1 := Lib.hid (HCH.out w11 tb v (HH.out w11 HB11.out).1)
                      clear hb11
                      go_wp2_with fail
                      refine HC1.out.mono ?_
                      rintro e w12 ⟨rfl, hb12⟩
                      have HB12 := Lib.hid (ubelow_on hb12 HB11.out (Nat.le_refl _))
                      have HG3 := Lib.hid (HG2.out.new hb12)
                      have HS3 := Lib.hid (HH.out w12 HB12.out).2.2.1
                      clear hb12
                      go_wp2_with fail
                      go_loopw [171] (fun i wr2 => ∃ p : Nat, p ≤ ln ∧ i = .int .i64 (p : Int) ∧ Hid (TRow wr2 (.slice ga ln gc) L) ∧ Hid (TRow wr2 (.slice sa ln sc) L) ∧ Hid (Below w8.heap.size w8 wr2)) (fun i _ => ln - (intOf i).toNat)
                      case atStart => exact ⟨0, Nat.zero_le _, rfl, HG3, HS3, HB12⟩
                      case round =>
                        obtain ⟨p, hp, rfl, HUq, HRq, HBq⟩ := hrel
                        by_cases hpl : p < ln
                        · obtain ⟨x, hx⟩ : ∃ x, L[p]? = some x := ⟨_, List.getElem?_eq_getElem (by rw [← HLN.out]; exact hpl)⟩
                          obtain ⟨gu, rfl, cu0, cu1⟩ : ∃ gu, ga = some ⟨gu, 0, none⟩ ∧ wr.cell? ⟨gu, p * 2, none⟩ = some (.string x.1) ∧ wr.cell? ⟨gu, p * 2 + 1, none⟩ = some (.int .i64 x.2) := by
                            rcases HUq.out.form with ⟨_, e⟩ | ⟨g, c, e, _, _, _, hc⟩
                            · rw [e] at hx; cases hx
                            · injection e with e1
                              exact ⟨g, e1, hc p x hx⟩
                          obtain ⟨gr, rfl, cr0, cr1⟩ : ∃ gr, sa = some ⟨gr, 0, none⟩ ∧ wr.cell? ⟨gr, p * 2, none⟩ = some (.string x.1) ∧ wr.cell? ⟨gr, p * 2 + 1, none⟩ = some (.int .i64 x.2) := by
                            rcases HRq.out.form with ⟨_, e⟩ | ⟨g, c, e, _, _, _, hc⟩
                            · rw [e] at hx; cases hx
                            · injection e with e1
                              exact ⟨g, e1, hc p x hx⟩
                          obtain ⟨x1, x2⟩ := x
                          try dsimp only at cu0 cu1 cr0 cr1
                          have hpn : (p : Int) < (ln : Int) := by omega
                          clear hx
                          go_wp2_with fail
                          go_quiet (fail)
                          go_wp2_with fail
                          exact ⟨⟨p + 1, by omega, by go_num, Lib.hid (HUq.out.chg ((Chg.refl (fun _ => False) _).drewN _) (fun _ _ e => e)), Lib.hid (HRq.out.chg ((Chg.refl (fun _ => False) _).drewN _) (fun _ _ e => e)), Lib.hid (below_drewN HBq.out _)⟩, by simp [intOf]; omega⟩
                        · go_wp2_with fail
                          exact ⟨⟨1, by decide, rfl, HBq⟩, by decide⟩
                    · have HX := Lib.hid (HAL.out _ tb2 v2 HK2.out)
                      go_wp2_with fail
                      refine HX.out.mono ?_
                      rintro e w10 ⟨gv, rfl, m1, m2, _⟩
                      obtain ⟨ga, gc, hgv⟩ := m1.len
                      rw [← HLN.out] at hgv
                      subst hgv
                      have HG1 := Lib.hid m1
                      have HB10 := Lib.hid (ubelow_on m2 HB9.out (Nat.le_refl _))
                      have HQ1 := Lib.hid (HQU.out w10 tb2 v2 (HK2.out.new m2))
                      clear m1 m2
                      go_wp2_with fail
                      refine HQ1.out.mono ?_
                      rintro e w11 ⟨rfl, hb11⟩
                      have HB11 := Lib.hid (ubelow_on hb11 HB10.out (Nat.le_refl _))
                      have HG2 := Lib.hid (HG1.out.new hb11)
                      have HC1 := Lib.hid (HCH.out w11 tb2 v2 (HH.out w11 HB11.out).2.1)
                      clear hb11
                      go_wp2_with fail
                      refine HC1.out.mono ?_
                      rintro e w12 ⟨rfl, hb12⟩
                      have HB12 := Lib.hid (ubelow_on hb12 HB11.out (Nat.le_refl _))
                      have HG3 := Lib.hid (HG2.out.new hb12)
                      have HS3 := Lib.hid (HH.out w12 HB12.out).2.2.1
                      clear hb12
                      go_wp2_with fail
                      go_loopw [171] (fun i wr2 => ∃ p : Nat, p ≤ ln ∧ i = .int .i64 (p : Int) ∧ Hid (TRow wr2 (.slice ga ln gc) L) ∧ Hid (TRow wr2 (.slice sa ln sc) L) ∧ Hid (Below w8.heap.size w8 wr2)) (fun i _ => ln - (intOf i).toNat)
                      case atStart => exact ⟨0, Nat.zero_le _, rfl, HG3, HS3, HB12⟩
                      case round =>
                        obtain ⟨p, hp, rfl, HUq, HRq, HBq⟩ := hrel
                        by_cases hpl : p < ln
                        · obtain ⟨x, hx⟩ : ∃ x, L[p]? = some x := ⟨_, List.getElem?_eq_getElem (by rw [← HLN.out]; exact hpl)⟩
                          obtain ⟨gu, rfl, cu0, cu1⟩ : ∃ gu, ga = some ⟨gu, 0, none⟩ ∧ wr.cell? ⟨gu, p * 2, none⟩ = some (.string x.1) ∧ wr.cell? ⟨gu, p * 2 + 1, none⟩ = some (.int .i64 x.2) := by
                            rcases HUq.out.form with ⟨_, e⟩ | ⟨g, c, e, _, _, _, hc⟩
                            · rw [e] at hx; cases hx
                            · injection e with e1
                              exact ⟨g, e1, hc p x hx⟩
                          obtain ⟨gr, rfl, cr0, cr1⟩ : ∃ gr, sa = some ⟨gr, 0, none⟩ ∧ wr.cell? ⟨gr, p * 2, none⟩ = some (.string x.1) ∧ wr.cell? ⟨gr, p * 2 + 1, none⟩ = some (.int .i64 x.2) := by
                            rcases HRq.out.form with ⟨_, e⟩ | ⟨g, c, e, _, _, _, hc⟩
                            · rw [e] at hx; cases hx
                            · injection e with e1
                              exact ⟨g, e1, hc p x hx⟩
                          obtain ⟨x1, x2⟩ := x
                          try dsimp only at cu0 cu1 cr0 cr1
                          have hpn : (p : Int) < (ln : Int) := by omega
                          clear hx
                          go_wp2_with fail
                          go_quiet (fail)
                          go_wp2_with fail
                          exact ⟨⟨p + 1, by omega, by go_num, Lib.hid (HUq.out.chg ((Chg.refl (fun _ => False) _).drewN _) (fun _ _ e => e)), Lib.hid (HRq.out.chg ((Chg.refl (fun _ => False) _).drewN _) (fun _ _ e => e)), Lib.hid (below_drewN HBq.out _)⟩, by simp [intOf]; omega⟩
                        · go_wp2_with fail
                          exact ⟨⟨2, by decide, rfl, HBq⟩, by decide⟩
                    · go_wp2_with fail
                      go_ret
                      exact ⟨rfl, HF8.out _ HB9.out⟩
              | false =>
                have hmq : mq = mj := by rw [HMN.out, if_neg (by decide), HMJ.out]
                subst hmq
                have hoe := HOE.out
                simp only [Bool.not_false] at hoe
                by_cases h0 : mq = 0
                · have hce : ce = 12 := by rw [HCE.out, if_pos h0]
                  subst hce
                  subst h0
                  go_wp2_with fail
                  refine (HRO.out _).mono ?_
                  rintro e w6 ⟨rfl, rfl⟩
                  go_wp2_with fail
                  refine HO2.out.mono ?_
                  rintro e w7 ⟨hb7, tb2, v2, rfl, _, _, h7⟩
                  have hh1 := (HN0.out.new (Chg.of_below hb7)).tab.head
                  have hh2 := h7.tab.head
                  have hh3 := HR0.out.new hb7
                  obtain ⟨w8, hw8⟩ : ∃ w8, w8 = w7.alloc (.cells #[.pointer (some ⟨tb, 0, none⟩), .pointer (some ⟨tb2, 0, none⟩)] 26) := ⟨_, rfl⟩
                  obtain ⟨ab, hab⟩ : ∃ ab, ab = w7.heap.size := ⟨_, rfl⟩
                  have hb8 : Below w7.heap.size w7 w8 := by rw [hw8]; exact (Below.refl _ _).alloc (Nat.le_refl _) _
                  have q0 : w8.cell? ⟨ab, 0, none⟩ = some (.pointer (some ⟨tb, 0, none⟩)) := by rw [hw8, hab]; simp [go_sem]
                  have q1 : w8.cell? ⟨ab, 1, none⟩ = some (.pointer (some ⟨tb2, 0, none⟩)) := by rw [hw8, hab]; simp [go_sem]
                  have HH : Hid (∀ W, Below w8.heap.size w8 W → THead W tb v L ∧ THead W tb2 v2 L ∧ TRow W (.slice sa ln sc) L ∧ W.cell? ⟨ab, 0, none⟩ = some (.pointer (some ⟨tb, 0, none⟩)) ∧ W.cell? ⟨ab, 1, none⟩ = some (.pointer (some ⟨tb2, 0, none⟩))) := Lib.hid (fun W hW => ⟨(hh1.new hb8).new hW, (hh2.new hb8).new hW, (hh3.new hb8).new hW, ukeep hW q0, ukeep hW q1⟩)
                  have HF8 : Hid (∀ W, Below w8.heap.size w8 W → Below w.heap.size w W) := Lib.hid (fun W hW => by
                    have h1 : Below w.heap.size w w8 := h7.below.trans (hb8.mono h7.below.size)
                    exact h1.trans (hW.mono h1.size))
                  have HW8 := Lib.hid hw8
                  have HAB := Lib.hid hab
                  clear hb7 h7 hh1 hh2 hh3 hw8 hab hb8 q0 q1
                  go_upto_region 53 with fail
                  rw [← HAB.out, ← HW8.out]
                  go_loopw [143] (fun i wr2 => ∃ j : Nat, j ≤ 2 ∧ i = .int .i64 (j : Int) ∧ Hid (Below w8.heap.size w8 wr2)) (fun i _ => 2 - (intOf i).toNat)
                  case atStart => exact ⟨0, by decide, rfl, Lib.hid (Below.refl _ _)⟩
                  case round =>
                    obtain ⟨j, hj, rfl, HB9⟩ := hrel
                    obtain ⟨k1, k2, k3, r0, r1⟩ := HH.out _ HB9.out
                    have HK1 := Lib.hid k1
                    have HK2 := Lib.hid k2
                    have HK3 := Lib.hid k3
                    clear k1 k2 k3
                    rcases (show j = 0 ∨ j = 1 ∨ j = 2 by omega) with rfl | rfl | rfl
                    · have HX := Lib.hid (HAL.out _ tb v HK1.out)
                      go_wp2_with fail
                      refine HX.out.mono ?_
                      rintro e w10 ⟨gv, rfl, m1, m2, _⟩
                      obtain ⟨ga, gc, hgv⟩ := m1.len
                      rw [← HLN.out] at hgv
                      subst hgv
                      have HG1 := Lib.hid m1
                      have HB10 := Lib.hid (ubelow_on m2 HB9.out (Nat.le_refl _))
                      have HQ1 := Lib.hid (HQU.out w10 tb v (HK1.out.new m2))
                      clear m1 m2
                      go_wp2_with fail
                      refine HQ1.out.mono ?_
                      rintro e w11 ⟨rfl, hb11⟩
                      have HB11 := Lib.hid (ubelow_on hb11 HB10.out (Nat.le_refl _))
                      have HG2 := Lib.hid (HG1.out.new hb11)
                      have HC1 := Lib.hid (HCH.out w11 tb v (HH.out w11 HB11.out).1)
                      clear hb11
                      go_wp2_with fail
                      refine HC1.out.mono ?_
                      rintro e w12 ⟨rfl, hb12⟩
                      have HB12 := Lib.hid (ubelow_on hb12 HB11.out (Nat.le_refl _))
                      have HG3 := Lib.hid (HG2.out.new hb12)
                      have HS3 := Lib.hid (HH.out w12 HB12.out).2.2.1
                      clear hb12
                      go_wp2_with fail
                      go_loopw [171] (fun i wr2 => ∃ p : Nat, p ≤ ln ∧ i = .int .i64 (p : Int) ∧ Hid (TRow wr2 (.slice ga ln gc) L) ∧ Hid (TRow wr2 (.slice sa ln sc) L) ∧ Hid (Below w8.heap.size w8 wr2)) (fun i _ => ln - (intOf i).toNat)
                      case atStart => exact ⟨0, Nat.zero_le _, rfl, HG3, HS3, HB12⟩
                      case round =>
                        obtain ⟨p, hp, rfl, HUq, HRq, HBq⟩ := hrel
                        by_cases hpl : p < ln
                        · obtain ⟨x, hx⟩ : ∃ x, L[p]? = some x := ⟨_, List.getElem?_eq_getElem (by rw [← HLN.out]; exact hpl)⟩
                          obtain ⟨gu, rfl, cu0, cu1⟩ : ∃ gu, ga = some ⟨gu, 0, none⟩ ∧ wr.cell? ⟨gu, p * 2, none⟩ = some (.string x.1) ∧ wr.cell? ⟨gu, p * 2 + 1, none⟩ = some (.int .i64 x.2) := by
                            rcases HUq.out.form with ⟨_, e⟩ | ⟨g, c, e, _, _, _, hc⟩
                            · rw [e] at hx; cases hx
                            · injection e with e1
                              exact ⟨g, e1, hc p x hx⟩
                          obtain ⟨gr, rfl, cr0, cr1⟩ : ∃ gr, sa = some ⟨gr, 0, none⟩ ∧ wr.cell? ⟨gr, p * 2, none⟩ = some (.string x.1) ∧ wr.cell? ⟨gr, p * 2 + 1, none⟩ = some (.int .i64 x.2) := by
                            rcases HRq.out.form with ⟨_, e⟩ | ⟨g, c, e, _, _, _, hc⟩
                            · rw [e] at hx; cases hx
                            · injection e with e1
                              exact ⟨g, e1, hc p x hx⟩
                          obtain ⟨x1, x2⟩ := x
                          try dsimp only at cu0 cu1 cr0 cr1
                          have hpn : (p : Int) < (ln : Int) := by omega
                          clear hx
                          go_wp2_with fail
                          go_quiet (fail)
                          go_wp2_with fail
                          exact ⟨⟨p + 1, by omega, by go_num, Lib.hid (HUq.out.chg ((Chg.refl (fun _ => False) _).drewN _) (fun _ _ e => e)), Lib.hid (HRq.out.chg ((Chg.refl (fun _ => False) _).drewN _) (fun _ _ e => e)), Lib.hid (below_drewN HBq.out _)⟩, by simp [intOf]; omega⟩
                        · go_wp2_with fail
                          exact ⟨⟨1, by decide, rfl, HBq⟩, by decide⟩
                    · have HX := Lib.hid (HAL.out _ tb2 v2 HK2.out)
                      go_wp2_with fail
                      refine HX.out.mono ?_
                      rintro e w10 ⟨gv, rfl, m1, m2, _⟩
                      obtain ⟨ga, gc, hgv⟩ := m1.len
                      rw [← HLN.out] at hgv
                      subst hgv
                      have HG1 := Lib.hid m1
                      have HB10 := Lib.hid (ubelow_on m2 HB9.out (Nat.le_refl _))
                      have HQ1 := Lib.hid (HQU.out w10 tb2 v2 (HK2.out.new m2))
                      clear m1 m2
                      go_wp2_with fail
                      refine HQ1.out.mono ?_
                      rintro e w11 ⟨rfl, hb11⟩
                      have HB11 := Lib.hid (ubelow_on hb11 HB10.out (Nat.le_refl _))
                      have HG2 := Lib.hid (HG1.out.new hb11)
                      have HC1 := Lib.hid (HCH.out w11 tb2 v2 (HH.out w11 HB11.out).2.1)
                      clear hb11
                      go_wp2_with fail
                      refine HC1.out.mono ?_
                      rintro e w12 ⟨rfl, hb12⟩
                      have HB12 := Lib.hid (ubelow_on hb12 HB11.out (Nat.le_refl _))
                      have HG3 := Lib.hid (HG2.out.new hb12)
                      have HS3 := Lib.hid (HH.out w12 HB12.out).2.2.1
                      clear hb12
                      go_wp2_with fail
                      go_loopw [171] (fun i wr2 => ∃ p : Nat, p ≤ ln ∧ i = .int .i64 (p : Int) ∧ Hid (TRow wr2 (.slice ga ln gc) L) ∧ Hid (TRow wr2 (.slice sa ln sc) L) ∧ Hid (Below w8.heap.size w8 wr2)) (fun i _ => ln - (intOf i).toNat)
                      case atStart => exact ⟨0, Nat.zero_le _, rfl, HG3, HS3, HB12⟩
                      case round =>
                        obtain ⟨p, hp, rfl, HUq, HRq, HBq⟩ := hrel
                        by_cases hpl : p < ln
                        · obtain ⟨x, hx⟩ : ∃ x, L[p]? = some x := ⟨_, List.getElem?_eq_getElem (by rw [← HLN.out]; exact hpl)⟩
                          obtain ⟨gu, rfl, cu0, cu1⟩ : ∃ gu, ga = some ⟨gu, 0, none⟩ ∧ wr.cell? ⟨gu, p * 2, none⟩ = some (.string x.1) ∧ wr.cell? ⟨gu, p * 2 + 1, none⟩ = some (.int .i64 x.2) := by
                            rcases HUq.out.form with ⟨_, e⟩ | ⟨g, c, e, _, _, _, hc⟩
                            · rw [e] at hx; cases hx
                            · injection e with e1
                              exact ⟨g, e1, hc p x hx⟩
                          obtain ⟨gr, rfl, cr0, cr1⟩ : ∃ gr, sa = some ⟨gr, 0, none⟩ ∧ wr.cell? ⟨gr, p * 2, none⟩ = some (.string x.1) ∧ wr.cell? ⟨gr, p * 2 + 1, none⟩ = some (.int .i64 x.2) := by
                            rcases HRq.out.form with ⟨_, e⟩ | ⟨g, c, e, _, _, _, hc⟩
                            · rw [e] at hx; cases hx
                            · injection e with e1
                              exact ⟨g, e1, hc p x hx⟩
                          obtain ⟨x1, x2⟩ := x
                          try dsimp only at cu0 cu1 cr0 cr1
                          have hpn : (p : Int) < (ln : Int) := by omega
                          clear hx
                          go_wp2_with fail
                          go_quiet (fail)
                          go_wp2_with fail
                          exact ⟨⟨p + 1, by omega, by go_num, Lib.hid (HUq.out.chg ((Chg.refl (fun _ => False) _).drewN _) (fun _ _ e => e)), Lib.hid (HRq.out.chg ((Chg.refl (fun _ => False) _).drewN _) (fun _ _ e => e)), Lib.hid (below_drewN HBq.out _)⟩, by simp [intOf]; omega⟩
                        · go_wp2_with fail
                          exact ⟨⟨2, by decide, rfl, HBq⟩, by decide⟩
                    · go_wp2_with fail
                      go_ret
                      exact ⟨rfl, HF8.out _ HB9.out⟩
                · have h0b : (mq == 0) = false := by simpa using h0
                  have hce : ce = if qu < 0 ∨ mq ≤ qu then 13 else 0 := by rw [HCE.out, if_neg h0]
                  clear h0
                  by_cases hq : qu < 0
                  · rw [if_pos (.inl hq)] at hce
                    subst hce
                    go_wp2_with fail
                    refine (HRO.out _).mono ?_
                    rintro e w6 ⟨rfl, rfl⟩
                    go_wp2_with fail
                    refine HO2.out.mono ?_
                    rintro e w7 ⟨hb7, tb2, v2, rfl, _, _, h7⟩
                    have hh1 := (HN0.out.new (Chg.of_below hb7)).tab.head
                    have hh2 := h7.tab.head
                    have hh3 := HR0.out.new hb7
                    obtain ⟨w8, hw8⟩ : ∃ w8, w8 = w7.alloc (.cells #[.pointer (some ⟨tb, 0, none⟩), .pointer (some ⟨tb2, 0, none⟩)] 26) := ⟨_, rfl⟩
                    obtain ⟨ab, hab⟩ : ∃ ab, ab = w7.heap.size := ⟨_, rfl⟩
                    have hb8 : Below w7.heap.size w7 w8 := by rw [hw8]; exact (Below.refl _ _).alloc (Nat.le_refl _) _
                    have q0 : w8.cell? ⟨ab, 0, none⟩ = some (.pointer (some ⟨tb, 0, none⟩)) := by rw [hw8, hab]; simp [go_sem]
                    have q1 : w8.cell? ⟨ab, 1, none⟩ = some (.pointer (some ⟨tb2, 0, none⟩)) := by rw [hw8, hab]; simp [go_sem]
                    have HH : Hid (∀ W, Below w8.heap.size w8 W → THead W tb v L ∧ THead W tb2 v2 L ∧ TRow W (.slice sa ln sc) L ∧ W.cell? ⟨ab, 0, none⟩ = some (.pointer (some ⟨tb, 0, none⟩)) ∧ W.cell? ⟨ab, 1, none⟩ = some (.pointer (some ⟨tb2, 0, none⟩))) := Lib.hid (fun W hW => ⟨(hh1.new hb8).new hW, (hh2.new hb8).new hW, (hh3.new hb8).new hW, ukeep hW q0, ukeep hW q1⟩)
                    have HF8 : Hid (∀ W, Below w8.heap.size w8 W → Below w.heap.size w W) := Lib.hid (fun W hW => by
                      have h1 : Below w.heap.size w w8 := h7.below.trans (hb8.mono h7.below.size)
                      exact h1.trans (hW.mono h1.size))
                    have HW8 := Lib.hid hw8
                    have HAB := Lib.hid hab
                    clear hb7 h7 hh1 hh2 hh3 hw8 hab hb8 q0 q1
                    go_upto_region 53 with fail
                    rw [← HAB.out, ← HW8.out]
                    go_loopw [143] (fun i wr2 => ∃ j : Nat, j ≤ 2 ∧ i = .int .i64 (j : Int) ∧ Hid (Below w8.heap.size w8 wr2)) (fun i _ => 2 - (intOf i).toNat)
                    case atStart => exact ⟨0, by decide, rfl, Lib.hid (Below.refl _ _)⟩
                    case round =>
                      obtain ⟨j, hj, rfl, HB9⟩ := hrel
                      obtain ⟨k1, k2, k3, r0, r1⟩ := HH.out _ HB9.out
                      have HK1 := Lib.hid k1
                      have HK2 := Lib.hid k2
                      have HK3 := Lib.hid k3
                      clear k1 k2 k3
                      rcases (show j = 0 ∨ j = 1 ∨ j = 2 by omega) with rfl | rfl | rfl
                      · have HX := Lib.hid (HAL.out _ tb v HK1.out)
                        go_wp2_with fail
                        refine HX.out.mono ?_
                        rintro e w10 ⟨gv, rfl, m1, m2, _⟩
                        obtain ⟨ga, gc, hgv⟩ := m1.len
                        rw [← HLN.out] at hgv
                        subst hgv
                        have HG1 := Lib.hid m1
                        have HB10 := Lib.hid (ubelow_on m2 HB9.out (Nat.le_refl _))
                        have HQ1 := Lib.hid (HQU.out w10 tb v (HK1.out.new m2))
                        clear m1 m2
                        go_wp2_with fail
                        refine HQ1.out.mono ?_
                        rintro e w11 ⟨rfl, hb11⟩
                        have HB11 := Lib.hid (ubelow_on hb11 HB10.out (Nat.le_refl _))
                        have HG2 := Lib.hid (HG1.out.new hb11)
                        have HC1 := Lib.hid (HCH.out w11 tb v (HH.out w11 HB11.out).1)
                        clear hb11
                        go_wp2_with fail
                        refine HC1.out.mono ?_
                        rintro e w12 ⟨rfl, hb12⟩
                        have HB12 := Lib.hid (ubelow_on hb12 HB11.out (Nat.le_refl _))
                        have HG3 := Lib.hid (HG2.out.new hb12)
                        have HS3 := Lib.hid (HH.out w12 HB12.out).2.2.1
                        clear hb12
                        go_wp2_with fail
                        go_loopw [171] (fun i wr2 => ∃ p : Nat, p ≤ ln ∧ i = .int .i64 (p : Int) ∧ Hid (TRow wr2 (.slice ga ln gc) L) ∧ Hid (TRow wr2 (.slice sa ln sc) L) ∧ Hid (Below w8.heap.size w8 wr2)) (fun i _ => ln - (intOf i).toNat)
                        case atStart => exact ⟨0, Nat.zero_le _, rfl, HG3, HS3, HB12⟩
                        case round =>
                          obtain ⟨p, hp, rfl, HUq, HRq, HBq⟩ := hrel
                          by_cases hpl : p < ln
                          · obtain ⟨x, hx⟩ : ∃ x, L[p]? = some x := ⟨_, List.getElem?_eq_getElem (by rw [← HLN.out]; exact hpl)⟩
                            obtain ⟨gu, rfl, cu0, cu1⟩ : ∃ gu, ga = some ⟨gu, 0, none⟩ ∧ wr.cell? ⟨gu, p * 2, none⟩ = some (.string x.1) ∧ wr.cell? ⟨gu, p * 2 + 1, none⟩ = some (.int .i64 x.2) := by
                              rcases HUq.out.form with ⟨_, e⟩ | ⟨g, c, e, _, _, _, hc⟩
                              · rw [e] at hx; cases hx
                              · injection e with e1
                                exact ⟨g, e1, hc p x hx⟩
                            obtain ⟨gr, rfl, cr0, cr1⟩ : ∃ gr, sa = some ⟨gr, 0, none⟩ ∧ wr.cell? ⟨gr, p * 2, none⟩ = some (.string x.1) ∧ wr.cell? ⟨gr, p * 2 + 1, none⟩ = some (.int .i64 x.2) := by
                              rcases HRq.out.form with ⟨_, e⟩ | ⟨g, c, e, _, _, _, hc⟩
                              · rw [e] at hx; cases hx
                              · injection e with e1
                                exact ⟨g, e1, hc p x hx⟩
                            obtain ⟨x1, x2⟩ := x
                            try dsimp only at cu0 cu1 cr0 cr1
                            have hpn : (p : Int) < (ln : Int) := by omega
                            clear hx
                            go_wp2_with fail
                            go_quiet (fail)
                            go_wp2_with fail
                            exact ⟨⟨p + 1, by omega, by go_num, Lib.hid (HUq.out.chg ((Chg.refl (fun _ => False) _).drewN _) (fun _ _ e => e)), Lib.hid (HRq.out.chg ((Chg.refl (fun _ => False) _).drewN _) (fun _ _ e => e)), Lib.hid (below_drewN HBq.out _)⟩, by simp [intOf]; omega⟩
                          · go_wp2_with fail
                            exact ⟨⟨1, by decide, rfl, HBq⟩, by decide⟩
                      · have HX := Lib.hid (HAL.out _ tb2 v2 HK2.out)
                        go_wp2_with fail
                        refine HX.out.mono ?_
                        rintro e w10 ⟨gv, rfl, m1, m2, _⟩
                        obtain ⟨ga, gc, hgv⟩ := m1.len
                        rw [← HLN.out] at hgv
                        subst hgv
                        have HG1 := Lib.hid m1
                        have HB10 := Lib.hid (ubelow_on m2 HB9.out (Nat.le_refl _))
                        have HQ1 := Lib.hid (HQU.out w10 tb2 v2 (HK2.out.new m2))
                        clear m1 m2
                        go_wp2_with fail
                        refine HQ1.out.mono ?_
                        rintro e w11 ⟨rfl, hb11⟩
                        have HB11 := Lib.hid (ubelow_on hb11 HB10.out (Nat.le_refl _))
                        have HG2 := Lib.hid (HG1.out.new hb11)
                        have HC1 := Lib.hid (HCH.out w11 tb2 v2 (HH.out w11 HB11.out).2.1)
                        clear hb11
                        go_wp2_with fail
                        refine HC1.out.mono ?_
                        rintro e w12 ⟨rfl, hb12⟩
                        have HB12 := Lib.hid (ubelow_on hb12 HB11.out (Nat.le_refl _))
                        have HG3 := Lib.hid (HG2.out.new hb12)
                        have HS3 := Lib.hid (HH.out w12 HB12.out).2.2.1
                        clear hb12
                        go_wp2_with fail
                        go_loopw [171] (fun i wr2 => ∃ p : Nat, p ≤ ln ∧ i = .int .i64 (p : Int) ∧ Hid (TRow wr2 (.slice ga ln gc) L) ∧ Hid (TRow wr2 (.slice sa ln sc) L) ∧ Hid (Below w8.heap.size w8 wr2)) (fun i _ => ln - (intOf i).toNat)
                        case atStart => exact ⟨0, Nat.zero_le _, rfl, HG3, HS3, HB12⟩
                        case round =>
                          obtain ⟨p, hp, rfl, HUq, HRq, HBq⟩ := hrel
                          by_cases hpl : p < ln
                          · obtain ⟨x, hx⟩ : ∃ x, L[p]? = some x := ⟨_, List.getElem?_eq_getElem (by rw [← HLN.out]; exact hpl)⟩
                            obtain ⟨gu, rfl, cu0, cu1⟩ : ∃ gu, ga = some ⟨gu, 0, none⟩ ∧ wr.cell? ⟨gu, p * 2, none⟩ = some (.string x.1) ∧ wr.cell? ⟨gu, p * 2 + 1, none⟩ = some (.int .i64 x.2) := by
                              rcases HUq.out.form with ⟨_, e⟩ | ⟨g, c, e, _, _, _, hc⟩
                              · rw [e] at hx; cases hx
                              · injection e with e1
                                exact ⟨g, e1, hc p x hx⟩
                            obtain ⟨gr, rfl, cr0, cr1⟩ : ∃ gr, sa = some ⟨gr, 0, none⟩ ∧ wr.cell? ⟨gr, p * 2, none⟩ = some (.string x.1) ∧ wr.cell? ⟨gr, p * 2 + 1, none⟩ = some (.int .i64 x.2) := by
                              rcases HRq.out.form with ⟨_, e⟩ | ⟨g, c, e, _, _, _, hc⟩
                              · rw [e] at hx; cases hx
                              · injection e with e1
                                exact ⟨g, e1, hc p x hx⟩
                            obtain ⟨x1, x2⟩ := x
                            try dsimp only at cu0 cu1 cr0 cr1
                            have hpn : (p : Int) < (ln : Int) := by omega
                            clear hx
                            go_wp2_with fail
                            go_quiet (fail)
                            go_wp2_with fail
                            exact ⟨⟨p + 1, by omega, by go_num, Lib.hid (HUq.out.chg ((Chg.refl (fun _ => False) _).drewN _) (fun _ _ e => e)), Lib.hid (HRq.out.chg ((Chg.refl (fun _ => False) _).drewN _) (fun _ _ e => e)), Lib.hid (below_drewN HBq.out _)⟩, by simp [intOf]; omega⟩
                          · go_wp2_with fail
                            exact ⟨⟨2, by decide, rfl, HBq⟩, by decide⟩
                      · go_wp2_with fail
                        go_ret
                        exact ⟨rfl, HF8.out _ HB9.out⟩
                  · by_cases hq2 : mq ≤ qu
                    · rw [if_pos (.inr hq2)] at hce
                      have hd : decide (mq ≤ qu) = true := decide_eq_true hq2
                      subst hce
                      clear hq2
                      go_wp2_with fail
                      refine (HRO.out _).mono ?_
                      rintro e w6 ⟨rfl, rfl⟩
                      go_wp2_with fail
                      refine HO2.out.mono ?_
                      rintro e w7 ⟨hb7, tb2, v2, rfl, _, _, h7⟩
                      have hh1 := (HN0.out.new (Chg.of_below hb7)).tab.head
                      have hh2 := h7.tab.head
                      have hh3 := HR0.out.new hb7
                      obtain ⟨w8, hw8⟩ : ∃ w8, w8 = w7.alloc (.cells #[.pointer (some ⟨tb, 0, none⟩), .pointer (some ⟨tb2, 0, none⟩)] 26) := ⟨_, rfl⟩
                      obtain ⟨ab, hab⟩ : ∃ ab, ab = w7.heap.size := ⟨_, rfl⟩
                      have hb8 : Below w7.heap.size w7 w8 := by rw [hw8]; exact (Below.refl _ _).alloc (Nat.le_refl _) _
                      have q0 : w8.cell? ⟨ab, 0, none⟩ = some (.pointer (some ⟨tb, 0, none⟩)) := by rw [hw8, hab]; simp [go_sem]
                      have q1 : w8.cell? ⟨ab, 1, none⟩ = some (.pointer (some ⟨tb2, 0, none⟩)) := by rw [hw8, hab]; simp [go_sem]
                      have HH : Hid (∀ W, Below w8.heap.size w8 W → THead W tb v L ∧ THead W tb2 v2 L ∧ TRow W (.slice sa ln sc) L ∧ W.cell? ⟨ab, 0, none⟩ = some (.pointer (some ⟨tb, 0, none⟩)) ∧ W.cell? ⟨ab, 1, none⟩ = some (.pointer (some ⟨tb2, 0, none⟩))) := Lib.hid (fun W hW => ⟨(hh1.new hb8).new hW, (hh2.new hb8).new hW, (hh3.new hb8).new hW, ukeep hW q0, ukeep hW q1⟩)
                      have HF8 : Hid (∀ W, Below w8.heap.size w8 W → Below w.heap.size w W) := Lib.hid (fun W hW => by
                        have h1 : Below w.heap.size w w8 := h7.below.trans (hb8.mono h7.below.size)
                        exact h1.trans (hW.mono h1.size))
                      have HW8 := Lib.hid hw8
                      have HAB := Lib.hid hab
                      clear hb7 h7 hh1 hh2 hh3 hw8 hab hb8 q0 q1
                      go_upto_region 53 with fail
                      rw [← HAB.out, ← HW8.out]
                      go_loopw [143] (fun i wr2 => ∃ j : Nat, j ≤ 2 ∧ i = .int .i64 (j : Int) ∧ Hid (Below w8.heap.size w8 wr2)) (fun i _ => 2 - (intOf i).toNat)
                      case atStart => exact ⟨0, by decide, rfl, Lib.hid (Below.refl _ _)⟩
                      case round =>
                        obtain ⟨j, hj, rfl, HB9⟩ := hrel
                        obtain ⟨k1, k2, k3, r0, r1⟩ := HH.out _ HB9.out
                        have HK1 := Lib.hid k1
                        have HK2 := Lib.hid k2
                        have HK3 := Lib.hid k3
                        clear k1 k2 k3
                        rcases (show j = 0 ∨ j = 1 ∨ j = 2 by omega) with rfl | rfl | rfl
                        · have HX := Lib.hid (HAL.out _ tb v HK1.out)
                          go_wp2_with fail
                          refine HX.out.mono ?_
                          rintro e w10 ⟨gv, rfl, m1, m2, _⟩
                          obtain ⟨ga, gc, hgv⟩ := m1.len
                          rw [← HLN.out] at hgv
                          subst hgv
                          have HG1 := Lib.hid m1
                          have HB10 := Lib.hid (ubelow_on m2 HB9.out (Nat.le_refl _))
                          have HQ1 := Lib.hid (HQU.out w10 tb v (HK1.out.new m2))
                          clear m1 m2
                          go_wp2_with fail
                          refine HQ1.out.mono ?_
                          rintro e w11 ⟨rfl, hb11⟩
                          have HB11 := Lib.hid (ubelow_on hb11 HB10.out (Nat.le_refl _))
                          have HG2 := Lib.hid (HG1.out.new hb11)
                          have HC1 := Lib.hid (HCH.out w11 tb v (HH.out w11 HB11.out).1)
                          clear hb11
                          go_wp2_with fail
                          refine HC1.out.mono ?_
                          rintro e w12 ⟨rfl, hb12⟩
                          have HB12 := Lib.hid (ubelow_on hb12 HB11.out (Nat.le_refl _))
                          have HG3 := Lib.hid (HG2.out.new hb12)
                          have HS3 := Lib.hid (HH.out w12 HB12.out).2.2.1
                          clear hb12
                          go_wp2_with fail
                          go_loopw [171] (fun i wr2 => ∃ p : Nat, p ≤ ln ∧ i = .int .i64 (p : Int) ∧ Hid (TRow wr2 (.slice ga ln gc) L) ∧ Hid (TRow wr2 (.slice sa ln sc) L) ∧ Hid (Below w8.heap.size w8 wr2)) (fun i _ => ln - (intOf i).toNat)
                          case atStart => exact ⟨0, Nat.zero_le _, rfl, HG3, HS3, HB12⟩
                          case round =>
                            obtain ⟨p, hp, rfl, HUq, HRq, HBq⟩ := hrel
                            by_cases hpl : p < ln
                            · obtain ⟨x, hx⟩ : ∃ x, L[p]? = some x := ⟨_, List.getElem?_eq_getElem (by rw [← HLN.out]; exact hpl)⟩
                              obtain ⟨gu, rfl, cu0, cu1⟩ : ∃ gu, ga = some ⟨gu, 0, none⟩ ∧ wr.cell? ⟨gu, p * 2, none⟩ = some (.string x.1) ∧ wr.cell? ⟨gu, p * 2 + 1, none⟩ = some (.int .i64 x.2) := by
                                rcases HUq.out.form with ⟨_, e⟩ | ⟨g, c, e, _, _, _, hc⟩
                                · rw [e] at hx; cases hx
                                · injection e with e1
                                  exact ⟨g, e1, hc p x hx⟩
                              obtain ⟨gr, rfl, cr0, cr1⟩ : ∃ gr, sa = some ⟨gr, 0, none⟩ ∧ wr.cell? ⟨gr, p * 2, none⟩ = some (.string x.1) ∧ wr.cell? ⟨gr, p * 2 + 1, none⟩ = some (.int .i64 x.2) := by
                                rcases HRq.out.form with ⟨_, e⟩ | ⟨g, c, e, _, _, _, hc⟩
                                · rw [e] at hx; cases hx
                                · injection e with e1
                                  exact ⟨g, e1, hc p x hx⟩
                              obtain ⟨x1, x2⟩ := x
                              try dsimp only at cu0 cu1 cr0 cr1
                              have hpn : (p : Int) < (ln : Int) := by omega
                              clear hx
                              go_wp2_with fail
                              go_quiet (fail)
                              go_wp2_with fail
                              exact ⟨⟨p + 1, by omega, by go_num, Lib.hid (HUq.out.chg ((Chg.refl (fun _ => False) _).drewN _) (fun _ _ e => e)), Lib.hid (HRq.out.chg ((Chg.refl (fun _ => False) _).drewN _) (fun _ _ e => e)), Lib.hid (below_drewN HBq.out _)⟩, by simp [intOf]; omega⟩
                            · go_wp2_with fail
                              exact ⟨⟨1, by decide, rfl, HBq⟩, by decide⟩
                        · have HX := Lib.hid (HAL.out _ tb2 v2 HK2.out)
                          go_wp2_with fail
                          refine HX.out.mono ?_
                          rintro e w10 ⟨gv, rfl, m1, m2, _⟩
                          obtain ⟨ga, gc, hgv⟩ := m1.len
                          rw [← HLN.out] at hgv
                          subst hgv
                          have HG1 := Lib.hid m1
                          have HB10 := Lib.hid (ubelow_on m2 HB9.out (Nat.le_refl _))
                          have HQ1 := Lib.hid (HQU.out w10 tb2 v2 (HK2.out.new m2))
                          clear m1 m2
                          go_wp2_with fail
                          refine HQ1.out.mono ?_
                          rintro e w11 ⟨rfl, hb11⟩
                          have HB11 := Lib.hid (ubelow_on hb11 HB10.out (Nat.le_refl _))
                          have HG2 := Lib.hid (HG1.out.new hb11)
                          have HC1 := Lib.hid (HCH.out w11 tb2 v2 (HH.out w11 HB11.out).2.1)
                          clear hb11
                          go_wp2_with fail
                          refine HC1.out.mono ?_
                          rintro e w12 ⟨rfl, hb12⟩
                          have HB12 := Lib.hid (ubelow_on hb12 HB11.out (Nat.le_refl _))
                          have HG3 := Lib.hid (HG2.out.new hb12)
                          have HS3 := Lib.hid (HH.out w12 HB12.out).2.2.1
                          clear hb12
                          go_wp2_with fail
                          go_loopw [171] (fun i wr2 => ∃ p : Nat, p ≤ ln ∧ i = .int .i64 (p : Int) ∧ Hid (TRow wr2 (.slice ga ln gc) L) ∧ Hid (TRow wr2 (.slice sa ln sc) L) ∧ Hid (Below w8.heap.size w8 wr2)) (fun i _ => ln - (intOf i).toNat)
                          case atStart => exact ⟨0, Nat.zero_le _, rfl, HG3, HS3, HB12⟩
                          case round =>
                            obtain ⟨p, hp, rfl, HUq, HRq, HBq⟩ := hrel
                            by_cases hpl : p < ln
                            · obtain ⟨x, hx⟩ : ∃ x, L[p]? = some x := ⟨_, List.getElem?_eq_getElem (by rw [← HLN.out]; exact hpl)⟩
                              obtain ⟨gu, rfl, cu0, cu1⟩ : ∃ gu, ga = some ⟨gu, 0, none⟩ ∧ wr.cell? ⟨gu, p * 2, none⟩ = some (.string x.1) ∧ wr.cell? ⟨gu, p * 2 + 1, none⟩ = some (.int .i64 x.2) := by
                                rcases HUq.out.form with ⟨_, e⟩ | ⟨g, c, e, _, _, _, hc⟩
                                · rw [e] at hx; cases hx
                                · injection e with e1
                                  exact ⟨g, e1, hc p x hx⟩
                              obtain ⟨gr, rfl, cr0, cr1⟩ : ∃ gr, sa = some ⟨gr, 0, none⟩ ∧ wr.cell? ⟨gr, p * 2, none⟩ = some (.string x.1) ∧ wr.cell? ⟨gr, p * 2 + 1, none⟩ = some (.int .i64 x.2) := by
                                rcases HRq.out.form with ⟨_, e⟩ | ⟨g, c, e, _, _, _, hc⟩
                                · rw [e] at hx; cases hx
                                · injection e with e1
                                  exact ⟨g, e1, hc p x hx⟩
                              obtain ⟨x1, x2⟩ := x
                              try dsimp only at cu0 cu1 cr0 cr1
                              have hpn : (p : Int) < (ln : Int) := by omega
                              clear hx
                              go_wp2_with fail
                              go_quiet (fail)
                              go_wp2_with fail
                              exact ⟨⟨p + 1, by omega, by go_num, Lib.hid (HUq.out.chg ((Chg.refl (fun _ => False) _).drewN _) (fun _ _ e => e)), Lib.hid (HRq.out.chg ((Chg.refl (fun _ => False) _).drewN _) (fun _ _ e => e)), Lib.hid (below_drewN HBq.out _)⟩, by simp [intOf]; omega⟩
                            · go_wp2_with fail
                              exact ⟨⟨2, by decide, rfl, HBq⟩, by decide⟩
                        · go_wp2_with fail
                          go_ret
                          exact ⟨rfl, HF8.out _ HB9.out⟩
                    · rw [if_neg (fun h => h.elim hq hq2)] at hce
                      have hd : decide (mq ≤ qu) = false := decide_eq_false hq2
                      subst hce
                      clear hq2
                      go_wp2_with fail
                      refine (HRO.out _).mono ?_
                      rintro e w6 ⟨rfl, rfl⟩
                      go_wp2_with fail
                      refine HO2.out.mono ?_
                      rintro e w7 ⟨hb7, tb2, v2, rfl, _, _, h7⟩
                      have hh1 := (HN0.out.new (Chg.of_below hb7)).tab.head
                      have hh2 := h7.tab.head
                      have hh3 := HR0.out.new hb7
                      obtain ⟨w8, hw8⟩ : ∃ w8, w8 = w7.alloc (.cells #[.pointer (some ⟨tb, 0, none⟩), .pointer (some ⟨tb2, 0, none⟩)] 26) := ⟨_, rfl⟩
                      obtain ⟨ab, hab⟩ : ∃ ab, ab = w7.heap.size := ⟨_, rfl⟩
                      have hb8 : Below w7.heap.size w7 w8 := by rw [hw8]; exact (Below.refl _ _).alloc (Nat.le_refl _) _
                      have q0 : w8.cell? ⟨ab, 0, none⟩ = some (.pointer (some ⟨tb, 0, none⟩)) := by rw [hw8, hab]; simp [go_sem]
                      have q1 : w8.cell? ⟨ab, 1, none⟩ = some (.pointer (some ⟨tb2, 0, none⟩)) := by rw [hw8, hab]; simp [go_sem]
                      have HH : Hid (∀ W, Below w8.heap.size w8 W → THead W tb v L ∧ THead W tb2 v2 L ∧ TRow W (.slice sa ln sc) L ∧ W.cell? ⟨ab, 0, none⟩ = some (.pointer (some ⟨tb, 0, none⟩)) ∧ W.cell? ⟨ab, 1, none⟩ = some (.pointer (some ⟨tb2, 0, none⟩))) := Lib.hid (fun W hW => ⟨(hh1.new hb8).new hW, (hh2.new hb8).new hW, (hh3.new hb8).new hW, ukeep hW q0, ukeep hW q1⟩)
                      have HF8 : Hid (∀ W, Below w8.heap.size w8 W → Below w.heap.size w W) := Lib.hid (fun W hW => by
                        have h1 : Below w.heap.size w w8 := h7.below.trans (hb8.mono h7.below.size)
                        exact h1.trans (hW.mono h1.size))
                      have HW8 := Lib.hid hw8
                      have HAB := Lib.hid hab
                      clear hb7 h7 hh1 hh2 hh3 hw8 hab hb8 q0 q1
                      go_upto_region 53 with fail
                      rw [← HAB.out, ← HW8.out]
                      go_loopw [143] (fun i wr2 => ∃ j : Nat, j ≤ 2 ∧ i = .int .i64 (j : Int) ∧ Hid (Below w8.heap.size w8 wr2)) (fun i _ => 2 - (intOf i).toNat)
                      case atStart => exact ⟨0, by decide, rfl, Lib.hid (Below.refl _ _)⟩
                      case round =>
                        obtain ⟨j, hj, rfl, HB9⟩ := hrel
                        obtain ⟨k1, k2, k3, r0, r1⟩ := HH.out _ HB9.out
                        have HK1 := Lib.hid k1
                        have HK2 := Lib.hid k2
                        have HK3 := Lib.hid k3
                        clear k1 k2 k3
                        rcases (show j = 0 ∨ j = 1 ∨ j = 2 by omega) with rfl | rfl | rfl
                        · have HX := Lib.hid (HAL.out _ tb v HK1.out)
                          go_wp2_with fail
                          refine HX.out.mono ?_
                          rintro e w10 ⟨gv, rfl, m1, m2, _⟩
                          obtain ⟨ga, gc, hgv⟩ := m1.len
                          rw [← HLN.out] at hgv
                          subst hgv
                          have HG1 := Lib.hid m1
                          have HB10 := Lib.hid (ubelow_on m2 HB9.out (Nat.le_refl _))
                          have HQ1 := Lib.hid (HQU.out w10 tb v (HK1.out.new m2))
                          clear m1 m2
                          go_wp2_with fail
                          refine HQ1.out.mono ?_
                          rintro e w11 ⟨rfl, hb11⟩
                          have HB11 := Lib.hid (ubelow_on hb11 HB10.out (Nat.le_refl _))
                          have HG2 := Lib.hid (HG1.out.new hb11)
                          have HC1 := Lib.hid (HCH.out w11 tb v (HH.out w11 HB11.out).1)
                          clear hb11
                          go_wp2_with fail
                          refine HC1.out.mono ?_
                          rintro e w12 ⟨rfl, hb12⟩
                          have HB12 := Lib.hid (ubelow_on hb12 HB11.out (Nat.le_refl _))
                          have HG3 := Lib.hid (HG2.out.new hb12)
                          have HS3 := Lib.hid (HH.out w12 HB12.out).2.2.1
                          clear hb12
                          go_wp2_with fail
                          go_loopw [171] (fun i wr2 => ∃ p : Nat, p ≤ ln ∧ i = .int .i64 (p : Int) ∧ Hid (TRow wr2 (.slice ga ln gc) L) ∧ Hid (TRow wr2 (.slice sa ln sc) L) ∧ Hid (Below w8.heap.size w8 wr2)) (fun i _ => ln - (intOf i).toNat)
                          case atStart => exact ⟨0, Nat.zero_le _, rfl, HG3, HS3, HB12⟩
                          case round =>
                            obtain ⟨p, hp, rfl, HUq, HRq, HBq⟩ := hrel
                            by_cases hpl : p < ln
                            · obtain ⟨x, hx⟩ : ∃ x, L[p]? = some x := ⟨_, List.getElem?_eq_getElem (by rw [← HLN.out]; exact hpl)⟩
                              obtain ⟨gu, rfl, cu0, cu1⟩ : ∃ gu, ga = some ⟨gu, 0, none⟩ ∧ wr.cell? ⟨gu, p * 2, none⟩ = some (.string x.1) ∧ wr.cell? ⟨gu, p * 2 + 1, none⟩ = some (.int .i64 x.2) := by
                                rcases HUq.out.form with ⟨_, e⟩ | ⟨g, c, e, _, _, _, hc⟩
                                · rw [e] at hx; cases hx
                                · injection e with e1
                                  exact ⟨g, e1, hc p x hx⟩
                              obtain ⟨gr, rfl, cr0, cr1⟩ : ∃ gr, sa = some ⟨gr, 0, none⟩ ∧ wr.cell? ⟨gr, p * 2, none⟩ = some (.string x.1) ∧ wr.cell? ⟨gr, p * 2 + 1, none⟩ = some (.int .i64 x.2) := by
                                rcases HRq.out.form with ⟨_, e⟩ | ⟨g, c, e, _, _, _, hc⟩
                                · rw [e] at hx; cases hx
                                · injection e with e1
                                  exact ⟨g, e1, hc p x hx⟩
                              obtain ⟨x1, x2⟩ := x
                              try dsimp only at cu0 cu1 cr0 cr1
                              have hpn : (p : Int) < (ln : Int) := by omega
                              clear hx
                              go_wp2_with fail
                              go_quiet (fail)
                              go_wp2_with fail
                              exact ⟨⟨p + 1, by omega, by go_num, Lib.hid (HUq.out.chg ((Chg.refl (fun _ => False) _).drewN _) (fun _ _ e => e)), Lib.hid (HRq.out.chg ((Chg.refl (fun _ => False) _).drewN _) (fun _ _ e => e)), Lib.hid (below_drewN HBq.out _)⟩, by simp [intOf]; omega⟩
                            · go_wp2_with fail
                              exact ⟨⟨1, by decide, rfl, HBq⟩, by decide⟩
                        · have HX := Lib.hid (HAL.out _ tb2 v2 HK2.out)
                          go_wp2_with fail
                          refine HX.out.mono ?_
                          rintro e w10 ⟨gv, rfl, m1, m2, _⟩
                          obtain ⟨ga, gc, hgv⟩ := m1.len
                          rw [← HLN.out] at hgv
                          subst hgv
                          have HG1 := Lib.hid m1
                          have HB10 := Lib.hid (ubelow_on m2 HB9.out (Nat.le_refl _))
                          have HQ1 := Lib.hid (HQU.out w10 tb2 v2 (HK2.out.new m2))
                          clear m1 m2
                          go_wp2_with fail
                          refine HQ1.out.mono ?_
                          rintro e w11 ⟨rfl, hb11⟩
                          have HB11 := Lib.hid (ubelow_on hb11 HB10.out (Nat.le_refl _))
                          have HG2 := Lib.hid (HG1.out.new hb11)
                          have HC1 := Lib.hid (HCH.out w11 tb2 v2 (HH.out w11 HB11.out).2.1)
                          clear hb11
                          go_wp2_with fail
                          refine HC1.out.mono ?_
                          rintro e w12 ⟨rfl, hb12⟩
                          have HB12 := Lib.hid (ubelow_on hb12 HB11.out (Nat.le_refl _))
                          have HG3 := Lib.hid (HG2.out.new hb12)
                          have HS3 := Lib.hid (HH.out w12 HB12.out).2.2.1
                          clear hb12
                          go_wp2_with fail
                          go_loopw [171] (fun i wr2 => ∃ p : Nat, p ≤ ln ∧ i = .int .i64 (p : Int) ∧ Hid (TRow wr2 (.slice ga ln gc) L) ∧ Hid (TRow wr2 (.slice sa ln sc) L) ∧ Hid (Below w8.heap.size w8 wr2)) (fun i _ => ln - (intOf i).toNat)
                          case atStart => exact ⟨0, Nat.zero_le _, rfl, HG3, HS3, HB12⟩
                          case round =>
                            obtain ⟨p, hp, rfl, HUq, HRq, HBq⟩ := hrel
                            by_cases hpl : p < ln
                            · obtain ⟨x, hx⟩ : ∃ x, L[p]? = some x := ⟨_, List.getElem?_eq_getElem (by rw [← HLN.out]; exact hpl)⟩
                              obtain ⟨gu, rfl, cu0, cu1⟩ : ∃ gu, ga = some ⟨gu, 0, none⟩ ∧ wr.cell? ⟨gu, p * 2, none⟩ = some (.string x.1) ∧ wr.cell? ⟨gu, p * 2 + 1, none⟩ = some (.int .i64 x.2) := by
                                rcases HUq.out.form with ⟨_, e⟩ | ⟨g, c, e, _, _, _, hc⟩
                                · rw [e] at hx; cases hx
                                · injection e with e1
                                  exact ⟨g, e1, hc p x hx⟩
                              obtain ⟨gr, rfl, cr0, cr1⟩ : ∃ gr, sa = some ⟨gr, 0, none⟩ ∧ wr.cell? ⟨gr, p * 2, none⟩ = some (.string x.1) ∧ wr.cell? ⟨gr, p * 2 + 1, none⟩ = some (.int .i64 x.2) := by
                                rcases HRq.out.form with ⟨_, e⟩ | ⟨g, c, e, _, _, _, hc⟩
                                · rw [e] at hx; cases hx
                                · injection e with e1
                                  exact ⟨g, e1, hc p x hx⟩
                              obtain ⟨x1, x2⟩ := x
                              try dsimp only at cu0 cu1 cr0 cr1
                              have hpn : (p : Int) < (ln : Int) := by omega
                              clear hx
                              go_wp2_with fail
                              go_quiet (fail)
                              go_wp2_with fail
                              exact ⟨⟨p + 1, by omega, by go_num, Lib.hid (HUq.out.chg ((Chg.refl (fun _ => False) _).drewN _) (fun _ _ e => e)), Lib.hid (HRq.out.chg ((Chg.refl (fun _ => False) _).drewN _) (fun _ _ e => e)), Lib.hid (below_drewN HBq.out _)⟩, by simp [intOf]; omega⟩
                            · go_wp2_with fail
                              exact ⟨⟨2, by decide, rfl, HBq⟩, by decide⟩
                        · go_wp2_with fail
                          go_ret
                          exact ⟨rfl, HF8.out _ HB9.out⟩
end Go.Proofs.Ytcdoicndpecfiaa

