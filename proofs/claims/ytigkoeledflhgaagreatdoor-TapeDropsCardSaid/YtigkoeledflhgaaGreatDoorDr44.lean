/-
  Part 44: what the statement needs of these texts: TDropB, TDropC, TDropW.
-/
import Derived.BigQuiet
import Derived.BigRegion
import Derived.ChangeSame
import Derived.Deep.AppendSrc
import Derived.Deep.DeepCutAuto
import Derived.Deep.DeepMust
import Derived.Deep.Grids
import Derived.Deep.OwnRows
import Derived.Deep.QuietTactic
import Derived.Deep.RegionHeld3
import Derived.Deep.RegionLaw
import Derived.Deep.RegionWith
import Derived.Defers
import Derived.IntWalk
import Derived.Laws.BitsAllLaws
import Derived.Laws.CopyOwn
import Derived.Laws.OwnMore
import Derived.Laws.PanicsMore
import Derived.Laws.RangeAny
import Derived.Laws.Rows
import Derived.Laws.StructEq
import Derived.Lib.AppendStr
import Derived.Lib.AppendZerosOnto
import Derived.Lib.Atoi
import Derived.Lib.AtoiErrMem
import Derived.Lib.BufferRead
import Derived.Lib.BufferWrite
import Derived.Lib.Hide
import Derived.Lib.ItoaNum
import Derived.Lib.LaidTab
import Derived.Lib.OthersKept
import Derived.Lib.Repeat
import Derived.Lib.SliceRun
import Derived.Lib.SmallJoins
import Derived.Maps.AppendAt
import Derived.Maps.OwnSet
import Derived.Maps.RangeWalk
import Derived.Orders
import Derived.ProofKit
import Derived.Recover
import Derived.RowKit
import Derived.Shelf.GgClosure.StringsIndexFunc
import Derived.Shelf.GgClosure.StringsIndexFuncTop
import Derived.Shelf.LaysM
import Derived.Shelf.SlSortCmp.NoneTotal
import Derived.Shelf.Slices.Empties
import Derived.Shelf.Slices.In.SortNone
import Derived.Shelf.Slices.SearchI
import Derived.Shelf.Small.Wraps
import Derived.Shelf.Sort.Plain
import Derived.Shelf.Strconv.Atoi
import Derived.Shelf.Strconv.Itoa3
import Derived.Shelf.Strings.Builder1
import Derived.Shelf.Strings.Prefix
import Derived.Shelf.Strings.Repeat
import Derived.SliceStrings
import Derived.Sort.KeysCollected
import Derived.Sort.OwnSorted
import Derived.StillTailTactics
import Derived.StringKeys
import Derived.Test.YtigkoeledflhgaaGreatDoorProg
import Derived.Test.YtigkoeledflhgaaGreatDoorRows
import Derived.WalkKit
import Derived.WalkLawsBesides
import Derived.WalkSmall
import Derived.WalkSpells
import Derived.Test.YtigkoeledflhgaaGreatDoorDr1
import Derived.Test.YtigkoeledflhgaaGreatDoorDr2
import Derived.Test.YtigkoeledflhgaaGreatDoorDr3
import Derived.Test.YtigkoeledflhgaaGreatDoorDr4
import Derived.Test.YtigkoeledflhgaaGreatDoorDr5
import Derived.Test.YtigkoeledflhgaaGreatDoorDr6
import Derived.Test.YtigkoeledflhgaaGreatDoorDr7
import Derived.Test.YtigkoeledflhgaaGreatDoorDr8
import Derived.Test.YtigkoeledflhgaaGreatDoorDr9
import Derived.Test.YtigkoeledflhgaaGreatDoorDr10
import Derived.Test.YtigkoeledflhgaaGreatDoorDr11
import Derived.Test.YtigkoeledflhgaaGreatDoorDr12
import Derived.Test.YtigkoeledflhgaaGreatDoorDr13
import Derived.Test.YtigkoeledflhgaaGreatDoorDr14
import Derived.Test.YtigkoeledflhgaaGreatDoorDr15
import Derived.Test.YtigkoeledflhgaaGreatDoorDr16
import Derived.Test.YtigkoeledflhgaaGreatDoorDr17
import Derived.Test.YtigkoeledflhgaaGreatDoorDr18
import Derived.Test.YtigkoeledflhgaaGreatDoorDr19
import Derived.Test.YtigkoeledflhgaaGreatDoorDr20
import Derived.Test.YtigkoeledflhgaaGreatDoorDr21
import Derived.Test.YtigkoeledflhgaaGreatDoorDr22
import Derived.Test.YtigkoeledflhgaaGreatDoorDr23
import Derived.Test.YtigkoeledflhgaaGreatDoorDr24
import Derived.Test.YtigkoeledflhgaaGreatDoorDr25
import Derived.Test.YtigkoeledflhgaaGreatDoorDr26
import Derived.Test.YtigkoeledflhgaaGreatDoorDr27
import Derived.Test.YtigkoeledflhgaaGreatDoorDr29
import Derived.Test.YtigkoeledflhgaaGreatDoorDr30
import Derived.Test.YtigkoeledflhgaaGreatDoorDr31
import Derived.Test.YtigkoeledflhgaaGreatDoorDr32
import Derived.Test.YtigkoeledflhgaaGreatDoorDr33
import Derived.Test.YtigkoeledflhgaaGreatDoorDr34
import Derived.Test.YtigkoeledflhgaaGreatDoorDr35
import Derived.Test.YtigkoeledflhgaaGreatDoorDr36
import Derived.Test.YtigkoeledflhgaaGreatDoorDr37
import Derived.Test.YtigkoeledflhgaaGreatDoorDr38
import Derived.Test.YtigkoeledflhgaaGreatDoorDr39
import Derived.Test.YtigkoeledflhgaaGreatDoorDr40
import Derived.Test.YtigkoeledflhgaaGreatDoorDr41
import Derived.Test.YtigkoeledflhgaaGreatDoorDr42
import Derived.Test.YtigkoeledflhgaaGreatDoorDr43
namespace Go.Proofs.YtigkoeledflhgaaGreatDoor
open Go.RowKit Go.Deep
set_option linter.unusedVariables false
set_option linter.unusedSimpArgs false

/-- How all is, k records on. -/
structure DrI (w0 w : World) (tb k : Nat) (t : TapeM) (g : Gh) (st : St) (m : RowM) (j : Nat) (l : List (MsgM × List UInt8)) (mb : Nat) (R : List (Int × MsgV)) (vI : Value) (d : Nat) : Prop where
  dw : DrW w0 w tb t g st m (4 * k) 0 j l mb R vI t.ids
  ok : (bytesI l).length % 1024 ≤ 1021
  sz : st.size ≤ 1351 * k
  cap : st.cap = 1048576
  len : (bytesI l).length ≤ 656 * k
  rl : R.length ≤ k
  nl : (notesI (1024 * 0) l).length ≤ k
  recs : RecsOf w0 R 0 l
  dd : g.d = d
theorem DrI.more {w0 w : World} {tb k : Nat} {t : TapeM} {g : Gh} {st : St} {m : RowM} {j : Nat} {l : List (MsgM × List UInt8)} {mb : Nat} {R : List (Int × MsgV)} {vI : Value} {d : Nat} (h : DrI w0 w tb k t g st m j l mb R vI d) : DrI w0 w tb (k + 1) t g st m j l mb R vI d :=
  ⟨{ h.dw with ti := h.dw.ti.more (by omega) }, h.ok, by have := h.sz; omega, h.cap, by have := h.len; omega, by have := h.rl; omega, by have := h.nl; omega, h.recs, h.dd⟩
theorem DrI.new {w0 w w' : World} {tb k : Nat} {t : TapeM} {g : Gh} {st : St} {m : RowM} {j : Nat} {l : List (MsgM × List UInt8)} {mb : Nat} {R : List (Int × MsgV)} {vI : Value} {d : Nat} (h : DrI w0 w tb k t g st m j l mb R vI d) (hc : Chg (fun _ => False) w w') : DrI w0 w' tb k t g st m j l mb R vI d := { h with dw := h.dw.new hc }
/-- How all is, i segments gone. -/
structure DrJ (w0 w : World) (tb i : Nat) (t : TapeM) (g : Gh) (st : St) (m : RowM) (j : Nat) (l : List (MsgM × List UInt8)) (mb : Nat) (R : List (Int × MsgV)) (vI : Value) (d T : Nat) : Prop where
  dw : DrW w0 w tb t g st m 400 i j l mb R vI t.ids
  tot : 1024 * i + (bytesI l).length = T
  nl : (notesI (1024 * i) l).length ≤ 80
  recs : RecsOf w0 R (1024 * i) l
  dd : g.d = d
theorem DrJ.new {w0 w w' : World} {tb i : Nat} {t : TapeM} {g : Gh} {st : St} {m : RowM} {j : Nat} {l : List (MsgM × List UInt8)} {mb : Nat} {R : List (Int × MsgV)} {vI : Value} {d T : Nat} (h : DrJ w0 w tb i t g st m j l mb R vI d T) (hc : Chg (fun _ => False) w w') : DrJ w0 w' tb i t g st m j l mb R vI d T := { h with dw := h.dw.new hc }
theorem DrJ.il {w0 w : World} {tb i : Nat} {t : TapeM} {g : Gh} {st : St} {m : RowM} {j : Nat} {l : List (MsgM × List UInt8)} {mb : Nat} {R : List (Int × MsgV)} {vI : Value} {d T : Nat} (h : DrJ w0 w tb i t g st m j l mb R vI d T) : t.ids.length ≤ 80 := by
  rw [h.dw.ti.tn.ids, List.length_map]; exact h.nl
theorem DrJ.wf {w0 w : World} {tb i : Nat} {t : TapeM} {g : Gh} {st : St} {m : RowM} {j : Nat} {l : List (MsgM × List UInt8)} {mb : Nat} {R : List (Int × MsgV)} {vI : Value} {d T : Nat} (h : DrJ w0 w tb i t g st m j l mb R vI d T) (hT : T ≤ 52480) : ∀ k ∈ t.ids, (Lit.int .i64 k).wf = true ∧ ∃ q : Nat, k = (q : Int) ∧ q ≤ 52480 := by
  intro k hk
  rw [h.dw.ti.tn.ids] at hk
  obtain ⟨x, hx, rfl⟩ := List.mem_map.1 hk
  have h1 := notesI_ge x hx
  have h2 := notesI_lt h.dw.ti.la' x hx
  have h3 := h.tot
  obtain ⟨q, hq⟩ : ∃ q : Nat, x.1 = (q : Int) := ⟨x.1.toNat, by omega⟩
  rw [hq]
  exact ⟨twf_nat q (by omega), q, rfl, by omega⟩
end Go.Proofs.YtigkoeledflhgaaGreatDoor

namespace Go.Proofs.YtigkoeledflhgaaGreatDoor
open Go.RowKit Go.Deep
set_option linter.unusedVariables false
set_option linter.unusedSimpArgs false

theorem lowN_zero {ids : List Int} (h : ∀ x ∈ ids, 0 ≤ x) : lowN ids 0 = 0 := by
  unfold lowN
  rw [List.countP_eq_zero]
  intro x hx
  have := h x hx
  simp
  exact this
theorem ints_of_row {w : World} {base : Nat} {v : Value} {l : List Int} (h : w.ownsRow base 3 1 v l.length (l.map (Value.int .i64))) : Ints w v l := by
  rcases h.2 with ⟨rfl, h0⟩ | ⟨g, cap, cur, rfl, hbase, hb, h1, h2, h3, h4⟩
  · obtain rfl : l = [] := List.length_eq_zero_iff.1 h0
    exact ⟨none, 0, rfl, .inl rfl⟩
  · refine ⟨_, _, rfl, .inr ⟨g, 0, rfl, fun j hj => ?_⟩⟩
    have e1 : (cur.toList.take (l.length * 1))[j]? = (l.map (Value.int .i64))[j]? := by rw [h4]
    rw [List.getElem?_take, if_pos (by omega), Array.getElem?_toList, List.getElem?_map, List.getElem?_eq_getElem hj] at e1
    rw [Nat.zero_add, List.getD_eq_getElem?_getD, List.getElem?_eq_getElem hj]
    simp only [World.cell?, hb]
    exact e1
theorem ints_of_own {w : World} {base : Nat} {v : Value} {l : List Int} (h : OwnI w base v l) : Ints w v l := by
  rcases own_form' h with ⟨rfl, rfl⟩ | ⟨g, o, c, rfl, hc, hcell⟩
  · exact ⟨none, 0, rfl, .inl rfl⟩
  · exact ⟨_, _, rfl, .inr ⟨g, o, rfl, hcell⟩⟩
/-- The list's rest. -/
theorem DrW.tail {w0 w : World} {tb : Nat} {t : TapeM} {g : Gh} {st : St} {m : RowM} {n i0 j : Nat} {l : List (MsgM × List UInt8)} {mb : Nat} {R : List (Int × MsgV)} {q o vn vc : Nat} {x : Int} {ids : List Int} (h : DrW w0 w tb t g st m n i0 j l mb R (.slice (some ⟨q, o, none⟩) vn vc) (x :: ids)) (hv : vn = (x :: ids).length) :
    DrW w0 w tb t g st m n i0 j l mb R (.slice (if vc = 1 then some ⟨q, o, none⟩ else some ⟨q, o + 1, none⟩) (vn - 1) (vc - 1)) ids := by
  subst hv
  by_cases hc : vc = 1
  · rw [if_pos hc]
    rcases h.own with ⟨e, _⟩ | ⟨g', o', cap', e, hb, hg, h1, h2, h3, h4⟩
    · cases e
    · injection e with e1 e2 e3
      subst e3
      obtain ⟨rfl, rfl⟩ : q = g' ∧ o = o' := by injection e1 with e1; injection e1 with a b; exact ⟨a, b⟩
      simp only [List.length_cons] at h1
      have h5 : ids = [] := List.length_eq_zero_iff.1 (by omega)
      subst h5
      subst hc
      exact ⟨h.ti, h.map, .inr ⟨q, o, 0, rfl, hb, hg, Nat.le_refl _, Nat.zero_le _, fun j hj => by simp at hj, fun j hj => by omega⟩, h.dm, fun x hx => h.dv x hx⟩
  · rw [if_neg hc]
    have := h.own.drop 1 (by simp)
    exact ⟨h.ti, h.map, this, h.dm, fun x hx => h.dv x hx⟩
theorem keys_few {M : MsgM} {bs : List UInt8} (h : putO M = some bs) (hk : M.kind ≠ 0) : M.keys.length ≤ 10000 := by
  have := (right_bd (put_get h []).2.2.2.2 hk).many
  omega
def slLen : Value → Nat
  | .slice _ n _ => n
  | _ => 0
/-- The numbers of two parts of what stands there. -/
theorem ids_split {w0 w : World} {tb : Nat} {t : TapeM} {g : Gh} {st : St} {m : RowM} {n i0 j : Nat} {l1 l2 : List (MsgM × List UInt8)} (h : TapeI w0 w tb t g st m n i0 j (l1 ++ l2)) (hl : (bytesI l1).length = 1024) :
    t.ids = (notesI (1024 * i0) l1).map (·.1) ++ (notesI (1024 * i0 + 1024) l2).map (·.1) ∧ (∀ x ∈ (notesI (1024 * i0) l1).map (·.1), 0 ≤ x ∧ x < ((1024 * (i0 + 1) : Nat) : Int)) ∧ ∀ x ∈ (notesI (1024 * i0 + 1024) l2).map (·.1), ((1024 * (i0 + 1) : Nat) : Int) ≤ x := by
  have hla := h.la'
  refine ⟨by rw [h.tn.ids, notesI_app, hl, List.map_append], fun x hx => ?_, fun x hx => ?_⟩
  · obtain ⟨y, hy, rfl⟩ := List.mem_map.1 hx
    have h1 := notesI_ge y hy
    have h2 := notesI_lt (laidAt_app.1 hla).1 y hy
    omega
  · obtain ⟨y, hy, rfl⟩ := List.mem_map.1 hx
    have h1 := notesI_ge y hy
    omega
end Go.Proofs.YtigkoeledflhgaaGreatDoor

namespace Go.Proofs.YtigkoeledflhgaaGreatDoor
open Go.RowKit Go.Deep
set_option linter.unusedVariables false
set_option linter.unusedSimpArgs false

set_option maxHeartbeats 8000000 in
set_option maxRecDepth 100000 in
theorem walkF_TapeDrops (v : Value) (ms : List (MsgM × Value)) (again : Bool) (w : World) (ht : Tab10 w) (hv : MsgsAt w v ms) (hl : ms.length ≤ maxLen) (hs : ∀ p ∈ ms, Sized w p ∧ CapOk p.2) :
    Calls Tryz.prog 5 #[v, .bool again] w fun e w' => e = .returned (.bool true) ∧ Below w.heap.size w w' := by
  unfold maxLen at hl
  have HTB := Lib.hid ht
  have HV := Lib.hid hv
  have HS := Lib.hid hs
  obtain ⟨a, cap, rfl⟩ := hv.form
  obtain ⟨n, hn⟩ : ∃ n, n = ms.length := ⟨_, rfl⟩
  have HN := Lib.hid hn
  rw [← hn] at HV hl ⊢
  clear ht hv hs hn
  go_enter Tryz.func5, Tryz.ntmps5
  go_wp2_with fail
  refine (tawake_any w HTB.out).mono ?_
  rintro e w1 ⟨rfl, hc1⟩
  have HC1 := Lib.hid hc1
  clear hc1
  by_cases h80 : 80 < n
  · go_wp2_with fail
    go_ret
    exact ⟨rfl, chg_below HC1.out⟩
  go_wp2_with fail
  refine (great_msgs _ ms w1 (HV.out.keep HC1.out (fun _ _ e => e)) (by rw [← HN.out]; omega) (fun p hp => (HS.out p hp).1.below (chg_below HC1.out))).mono ?_
  rintro e w2 ⟨z, rfl, hf, hb2⟩
  have HC2 := Lib.hid (HC1.out.trans (below_chg hb2) (fun _ _ e => e))
  have HF := Lib.hid hf
  clear hb2 hf
  cases z
  case true =>
    go_wp2_with fail
    go_ret
    exact ⟨rfl, chg_below HC2.out⟩
  have HFA := Lib.hid (HF.out rfl)
  clear HF
  have HN2 := Lib.hid (new_any 1048576 w2)
  go_wp2_with fail
  refine HN2.out.mono ?_
  rintro e w3 ⟨rfl, hd0, hb0⟩
  obtain ⟨g, hg⟩ : ∃ g : Gh, g = ⟨w2.heap.size, none, []⟩ := ⟨_, rfl⟩
  have hdg : DiskG w w3 w2.heap.size g (newSt 1048576) := ⟨by rw [hg]; exact hd0, by rw [hg], HC2.out.trans (below_chg hb0) (fun _ _ e => e), fun k hk => by rw [hg] at hk; simp [Gh.fp] at hk; have := HC2.out.size; omega⟩
  have hgd : g.d = w2.heap.size := by rw [hg]
  have hgf : ∀ q ∈ g.fp, w.heap.size ≤ q := fun q hq => by rw [hg] at hq; simp [Gh.fp] at hq; have := HC2.out.size; omega
  have hs3 : w.heap.size ≤ w3.heap.size := Nat.le_trans HC2.out.size hb0.size
  have HO := Lib.hid (topen_laid (l := []) hdg HTB.out (newC tH 1024 1048576 (by decide) (by decide) (by decide)) (by omega) rfl trivial (by decide) (by decide))
  obtain ⟨db, hdb⟩ : ∃ db, db = w2.heap.size := ⟨_, rfl⟩
  rw [← hdb] at hgd HO ⊢
  have HGD := Lib.hid (And.intro hgd (And.intro hgf hs3))
  clear hd0 hb0 hg hdg hgd hdb hgf hs3
  go_wp2_with fail
  refine HO.out.mono ?_
  rintro e w4 ⟨tb, t0, g2, m2, st2, j2, rfl, x1, x2, x3, x4, x5, x6, x7, x8, x9, x10, x11, x12⟩
  have hj2 : 0 = j2 := x6 rfl
  subst hj2
  have hsz := new_size x2.rc x2.hd x9
  have hmm := @run_makeMap Tryz.prog
  have HX := Lib.hid (And.intro x1 (And.intro x2 (And.intro x3 (And.intro x7 (And.intro hsz (And.intro x10 (And.intro x11 x12)))))))
  clear x1 x2 x3 x4 x5 x6 x7 x8 x9 x10 x11 x12 hsz
  have HJ0 : Hid (DrI w (w4.alloc (.map #[] 0)) tb 0 t0 g2 st2 m2 0 [] w4.heap.size [] (.slice none 0 0) db) := Lib.hid (by
    obtain ⟨x1, x2, x3, x7, hsz, x10, x11, x12⟩ := HX.out
    have hal : Chg (fun _ => False) w4 (w4.alloc (.map #[] 0)) := Chg.alloc _ (Chg.refl _ _) _
    have hids : t0.ids = [] := x2.tn.ids
    refine ⟨⟨x2.new hal, MapK.made w4, by rw [hids]; exact ownI_nil _ _, ⟨⟨fun hx => ?_, fun hx => ?_, fun hx => ?_⟩, x2.tg.row.chg.size⟩, fun q hq => by cases hq⟩, by decide, by rw [hsz]; omega, by rw [x7]; rfl, Nat.zero_le _, Nat.le_refl _, Nat.le_refl _, trivial, by rw [x3]; exact HGD.out.1⟩
    · have := x2.tg.tape.lt _ hx; omega
    · have := x2.tg.row.row.lt; omega
    · have := x2.tg.row.disk.lt _ hx; omega)
  go_wp2_with fail
  go_loopw [9, 45] (fun vi i wr => ∃ (k vn vc : Nat) (vp : Option Addr), k ≤ n ∧ i = .int .i64 k ∧ vi = .slice vp vn vc ∧ ∃ t g st m j l R, DrI w wr tb k t g st m j l w4.heap.size R (.slice vp vn vc) db) (fun _ i _ => n - (intOf i).toNat)
  case atStart => exact ⟨0, 0, 0, none, Nat.zero_le _, rfl, rfl, _, _, _, _, _, _, _, HJ0.out⟩
  case round =>
    obtain ⟨k, vn, vc, vp, hk, rfl, rfl, t, g, st, m, j, l, R, hI⟩ := hrel
    have HI := Lib.hid hI
    clear hI
    by_cases hlt : k < n
    · obtain ⟨p, hp⟩ : ∃ p, ms[k]? = some p := ⟨_, List.getElem?_eq_getElem (by rw [← HN.out]; exact hlt)⟩
      have hpm := List.mem_of_getElem? hp
      obtain ⟨M, vk⟩ := p
      have hcw := HI.out.dw.ti.tg.row.chg
      obtain ⟨a', cap', e', hx⟩ := HV.out.keep hcw (fun _ _ e => e)
      rcases hx with hx | ⟨b, o, rfl, hbl, hcell⟩
      · rw [hx] at hp; cases hp
      have key := hcell k _ hp
      have hsz : Sized wr (M, vk) := (HS.out _ hpm).1.below (chg_below hcw)
      have hcp : CapOk vk := (HS.out _ hpm).2
      have hfn : Fine M := HFA.out _ hpm
      obtain ⟨hea, hec⟩ : a = some ⟨b, o, none⟩ ∧ cap = cap' := by injection e' with e1 e2 e3; exact ⟨e1, e3⟩
      subst hea
      clear e' hec hcell
      obtain ⟨m1, mq, m3, m4, m5, m6, m7, m8, m9, m10⟩ := M
      obtain ⟨ka, kc, hva⟩ := hsz.strs.form
      dsimp only at hva
      obtain ⟨kl, hkl⟩ : ∃ l, l = m10.length := ⟨_, rfl⟩
      rw [← hkl] at hva
      subst hva
      have hlow : b < wr.heap.size := hbl
      have f0 : wr.cell? ⟨b, o + k * 10, none⟩ = some (.int .i64 m1) := by first | (simp [MsgM.cells]; done) | simpa [MsgM.cells] using key 0 (by decide)
      have f1 : wr.cell? ⟨b, o + k * 10 + 1, none⟩ = some (.int .i64 mq) := by first | (simp [MsgM.cells]; done) | simpa [MsgM.cells] using key 1 (by decide)
      have f2 : wr.cell? ⟨b, o + k * 10 + 1 + 1, none⟩ = some (.int .i64 m3) := by first | (simp [MsgM.cells]; done) | simpa [MsgM.cells] using key 2 (by decide)
      have f3 : wr.cell? ⟨b, o + k * 10 + 1 + 1 + 1, none⟩ = some (.int .i64 m4) := by first | (simp [MsgM.cells]; done) | simpa [MsgM.cells] using key 3 (by decide)
      have f4 : wr.cell? ⟨b, o + k * 10 + 1 + 1 + 1 + 1, none⟩ = some (.int .i64 m5) := by first | (simp [MsgM.cells]; done) | simpa [MsgM.cells] using key 4 (by decide)
      have f5 : wr.cell? ⟨b, o + k * 10 + 1 + 1 + 1 + 1 + 1, none⟩ = some (.int .i64 m6) := by first | (simp [MsgM.cells]; done) | simpa [MsgM.cells] using key 5 (by decide)
      have f6 : wr.cell? ⟨b, o + k * 10 + 1 + 1 + 1 + 1 + 1 + 1, none⟩ = some (.string m7) := by first | (simp [MsgM.cells]; done) | simpa [MsgM.cells] using key 6 (by decide)
      have f7 : wr.cell? ⟨b, o + k * 10 + 1 + 1 + 1 + 1 + 1 + 1 + 1, none⟩ = some (.string m8) := by first | (simp [MsgM.cells]; done) | simpa [MsgM.cells] using key 7 (by decide)
      have f8 : wr.cell? ⟨b, o + k * 10 + 1 + 1 + 1 + 1 + 1 + 1 + 1 + 1, none⟩ = some (.string m9) := by first | (simp [MsgM.cells]; done) | simpa [MsgM.cells] using key 8 (by decide)
      have f9 : wr.cell? ⟨b, o + k * 10 + 1 + 1 + 1 + 1 + 1 + 1 + 1 + 1 + 1, none⟩ = some (.slice ka kl kc) := by first | (simp [MsgM.cells]; done) | simpa [MsgM.cells] using key 9 (by decide)
      obtain ⟨W1, hW1⟩ : ∃ W, W = wr.alloc (.cells #[.int .i64 m1, .int .i64 mq, .int .i64 m3, .int .i64 m4, .int .i64 m5, .int .i64 m6, .string m7, .string m8, .string m9, .slice ka kl kc] 38) := ⟨_, rfl⟩
      have hb1 : Below wr.heap.size wr W1 := hW1 ▸ (Below.refl _ _).alloc (Nat.le_refl _) _
      have HBX : Hid (Box W1 wr.heap.size #[.int .i64 m1, .int .i64 mq, .int .i64 m3, .int .i64 m4, .int .i64 m5, .int .i64 m6, .string m7, .string m8, .string m9, .slice ka kl kc]) := Lib.hid (hW1 ▸ Box.new wr _)
      have HSZ := Lib.hid hsz
      have HCP := Lib.hid hcp
      have HFN := Lib.hid hfn
      have HW1 := Lib.hid hW1
      have HB1 := Lib.hid hb1
      have HKL := Lib.hid hkl
      have HI1 : Hid (DrI w W1 tb k t g st m j l w4.heap.size R (.slice vp vn vc) db) := Lib.hid (HI.out.new (below_chg hb1))
      have hti := HI1.out.dw.ti
      have hnl := HI1.out.nl
      have hml := hti.tn.ml
      have hil : t.ids.length ≤ k := by rw [hti.tn.ids, List.length_map]; exact hnl
      obtain ⟨F, S, E, hlf, hag⟩ := app_gen hti.tg hti.rc hti.hd ⟨m1, mq, m3, m4, m5, m6, m7, m8, m9, m10⟩ (.slice ka kl kc) (HSZ.out.strs.below hb1 (Nat.le_refl _)) hcp hfn.sound HI1.out.ok (by rw [HI1.out.cap]; have := HI1.out.sz; omega) (by omega) (by have := HI1.out.len; omega) (by omega) (by omega)
      unfold AppGen MsgM.val MsgM.cells at hag
      dsimp only at hag
      have HAG := Lib.hid hag
      have hsw : Strs w 0 (.slice ka kl kc) m10 := (HS.out _ hpm).1.strs
      have HSW := Lib.hid hsw
      have HP := Lib.hid hp
      have hkx := HBX.out.cell
      clear hp hpm hcw hbl key hsz hcp hfn hlow hW1 hb1 hkl hti hnl hml hil hlf hag hsw
      go_upto_region 14 with fail
      rw [← HW1.out]
      clear f0 f1 f2 f3 f4 f5 f6 f7 f8 f9
      rcases HAG.out with ⟨rfl, hf0, hs0, hA⟩ | ⟨rfl, h3, h327, hf1, hm1, hm2, ⟨bs, hpb, hSb, hkd, hFb⟩, hA⟩
      · have HA := Lib.hid hA
        clear hA
        go_wp2_with fail
        refine HA.out.mono ?_
        rintro e w6 ⟨rfl, hb6⟩
        have HI6 : Hid (DrI w w6 tb (k + 1) t g st m j l w4.heap.size R (.slice vp vn vc) db) := Lib.hid ((HI1.out.new (below_chg hb6)).more)
        clear hb6
        go_wp2_with fail
        exact ⟨⟨k + 1, vn, vc, vp, by omega, by go_num, rfl, _, _, _, _, _, _, _, HI6.out⟩, by simp [intOf]; omega⟩
      · have HA := Lib.hid hA
        clear hA
        go_wp2_with fail
        refine HA.out.mono ?_
        rintro e w6 ⟨rfl, hto⟩
        obtain ⟨t', g', m', st', j', hT', hd', hsy, hsz', hcap', hchg, hfp, hrb, hids, hft⟩ := HI1.out.dw.ti.app HI1.out.ok hkd hpb hFb hSb hto
        have hwW : wr.heap.size < W1.heap.size := HBX.out.lt
        have hdw6 := HI1.out.dw.call hT' hchg (fun x hx => hx) (fun x hx => by
          rcases hx with y | y | y
          · rcases hft x y with z | z
            · exact .inl (.inl z)
            · exact .inr z
          · exact .inl (.inr (.inl (by rw [y, hrb])))
          · rcases hfp x y with z | z
            · exact .inl (.inr (.inr z))
            · exact .inr z)
        have hbx6 : Box w6 wr.heap.size #[.int .i64 m1, .int .i64 mq, .int .i64 m3, .int .i64 m4, .int .i64 m5, .int .i64 m6, .string m7, .string m8, .string m9, .slice ka kl kc] := hchg.heap HBX.out (fun hx => by
          rcases hx with y | y | y
          · have := HI.out.dw.ti.tg.tape.lt _ y; omega
          · have := HI.out.dw.ti.tg.row.row.lt; omega
          · have := HI.out.dw.ti.tg.row.disk.lt _ y; omega)
        obtain ⟨q, hq⟩ : ∃ q, q = 1024 * 0 + (bytesI l).length + F.size := ⟨_, rfl⟩
        obtain ⟨mv, hmv⟩ : ∃ mv : MsgV, mv = ⟨m1, mq, m3, m4, m5, m6, m7, m8, m9, ka, kl, kc⟩ := ⟨_, rfl⟩
        obtain ⟨l', hl'⟩ : ∃ l', l' = l ++ itemsA (roomT 0 (bytesI l)) ⟨m1, mq, m3, m4, m5, m6, m7, m8, m9, m10⟩ bs := ⟨_, rfl⟩
        have hFs : F.size = (tfill (roomT 0 (bytesI l)) bs.length).length := by rw [hFb, sizeL]
        have hSs : S.size = bs.length := by rw [hSb, sizeL]
        have hF329 : F.size ≤ 329 := by
          rw [hFs]
          unfold tfill
          split
          · simp
          · split
            · rw [fillB_length _ (by omega)]; omega
            · simp
        have hrec : RecsOf w (dropK R (q : Int) ++ [((q : Int), mv)]) 0 l' := by
          rw [hl']
          refine recsOf_app.2 ⟨HI1.out.recs.put HI1.out.dw.ti.la q mv (by omega), ?_⟩
          have hlast : ∀ p, p = q → RecsOf w (dropK R (q : Int) ++ [((q : Int), mv)]) p [((⟨m1, mq, m3, m4, m5, m6, m7, m8, m9, m10⟩ : MsgM), bs)] := fun p hp => ⟨fun _ => ⟨mv, by rw [getK_putV, if_pos (by rw [hp])], by
            rw [hmv]
            exact ⟨rfl, HSW.out, by
              obtain ⟨x1, x2, x3, x4, x5⟩ := HCP.out
              cases x4
              exact x5⟩⟩, trivial⟩
          unfold itemsA
          split
          · rename_i h0
            exact hlast _ (by rw [hq, hFs, h0]; simp)
          · refine ⟨fun hx => absurd rfl hx, hlast _ ?_⟩
            show 0 + (bytesI l).length + (tfill (roomT 0 (bytesI l)) bs.length).length = q
            omega
        have hlen' : (bytesI l').length = (bytesI l).length + F.size + S.size := by rw [hl', bytesI_app, itemsA_bytes, List.length_append, List.length_append, hFs, hSb, sizeL]; omega
        rw [← hl'] at hT' hdw6
        have hnl' : (notesI (1024 * 0) l').length = (notesI (1024 * 0) l).length + 1 := by
          have e1 : t'.ids.length = t.ids.length + 1 := by rw [hids]; simp
          rw [hT'.tn.ids, HI1.out.dw.ti.tn.ids, List.length_map, List.length_map] at e1
          exact e1
        have hq2 : q ≤ 200000 := by have := HI1.out.len; omega
        have hkm := hbx6.cell
        rw [← hq] at hids
        have HID := Lib.hid hids
        have HDW6 := Lib.hid hdw6
        have HREC := Lib.hid hrec
        have HMV := Lib.hid hmv
        have HREST : Hid ((bytesI l').length % 1024 ≤ 1021 ∧ st'.size ≤ 1351 * (k + 1) ∧ st'.cap = 1048576 ∧ (bytesI l').length ≤ 656 * (k + 1) ∧ (notesI (1024 * 0) l').length ≤ k + 1 ∧ g'.d = db) := Lib.hid ⟨by rw [hlen']; exact hm2, by rw [hsz']; have := HI1.out.sz; omega, by rw [hcap']; exact HI1.out.cap, by rw [hlen']; have := HI1.out.len; omega, by rw [hnl']; have := HI1.out.nl; omega, by rw [hd']; exact HI1.out.dd⟩
        rw [← hq]
        clear hF329 hSs hT' hd' hsy hsz' hcap' hchg hfp hrb hids hft hdw6 hbx6 hFs hrec hlen' hnl' hto hf1 hm1 hm2 hpb hSb hFb h3 h327 hq hl' hmv hkx hkd
        go_wp2_with (with_reducible refine wpList_store_msg rfl (.tmp 57) (.tmp 58) (.tmp 59) rfl w4.heap.size R (q : Int) ⟨m1, mq, m3, m4, m5, m6, m7, m8, m9, ka, kl, kc⟩ rfl rfl rfl ?c1 ?c2 ?c3 ?c4)
        case c1 => exact HDW6.out.map
        case c2 => exact twf_nat q (by omega)
        case c3 => have := HI1.out.rl; unfold maxLen; omega
        case c4 =>
          intro w7 hm7 hg7 hs7
          rw [← HMV.out] at hm7
          have hdw7 := HDW6.out.put hm7 hg7
          have HDW7 := Lib.hid hdw7
          have hz7 : w.heap.size ≤ w7.heap.size := hdw7.ti.tg.row.chg.size
          have hil7 : t.ids.length ≤ k := by rw [HI1.out.dw.ti.tn.ids, List.length_map]; exact HI1.out.nl
          clear hm7 hg7 hs7 hkm hdw7
          go_wp2_with (at_builtin; with_reducible refine wpList_append_num rfl (.tmp 60) (.tmp 62) rfl w.heap.size (.slice vp vn vc) t.ids rfl ?d1 w7.heap.size 1 (q : Int) rfl ?d2 ?d3 ?d4 ?d5)
          case d1 => exact HDW7.out.own.alloc _
          case d2 => simp
          case d3 => omega
          case d4 => rw [World.size_alloc]; omega
          case d5 =>
            intro v8 w8 ho8 hg8 hv8
            obtain ⟨xp, xc, hvs⟩ := ho8.slice
            obtain ⟨xn, hxn⟩ : ∃ xn, xn = (t.ids ++ [(q : Int)]).length := ⟨_, rfl⟩
            rw [← hxn] at hvs
            subst hvs
            have hc8 : Chg (fun x => (Value.slice vp vn vc).ownBlock = some x) w7 w8 := (Chg.alloc _ (Chg.refl _ _) _).trans (Chg.of_grown (S := fun x => (Value.slice vp vn vc).ownBlock = some x) hg8 (fun x hx _ => hx)) (fun i _ x => x)
            have hdw8 := HDW7.out.list ho8 hc8 (fun x hx => by
              rcases hv8 with e | e
              · left; rw [← e]; exact hx
              · right
                rw [e] at hx
                have := Option.some.inj hx
                omega)
            rw [← HID.out] at hdw8
            have HI8 : Hid (DrI w w8 tb (k + 1) t' g' st' m' j' l' w4.heap.size (dropK R (q : Int) ++ [((q : Int), mv)]) (.slice xp xn xc) db) := Lib.hid ⟨hdw8, HREST.out.1, HREST.out.2.1, HREST.out.2.2.1, HREST.out.2.2.2.1, by
              rw [List.length_append]
              have : (dropK R (q : Int)).length ≤ R.length := List.length_filter_le ..
              have := HI1.out.rl
              simp
              omega, HREST.out.2.2.2.2.1, HREC.out, HREST.out.2.2.2.2.2⟩
            clear ho8 hg8 hv8 hc8 hdw8 hxn hil7 hz7
            go_wp2_with fail
            exact ⟨⟨k + 1, xn, xc, xp, by omega, by go_num, rfl, _, _, _, _, _, _, _, HI8.out⟩, by simp [intOf]; omega⟩
    · obtain ⟨T, hT⟩ : ∃ T, T = (bytesI l).length := ⟨_, rfl⟩
      have hT2 : T ≤ 52480 := by have := HI.out.len; omega
      have HJ : Hid (DrJ w wr tb 0 t g st m j l w4.heap.size R (.slice vp vn vc) db T) := Lib.hid ⟨{ HI.out.dw with ti := HI.out.dw.ti.more (by omega) }, by rw [hT]; omega, by have := HI.out.nl; omega, HI.out.recs, HI.out.dd⟩
      obtain ⟨mb, hmb⟩ : ∃ mb, mb = w4.heap.size := ⟨_, rfl⟩
      rw [← hmb] at HJ ⊢
      clear HI hT hmb HJ0 HX HO hmm HFA
      go_wp2_with fail
      go_loopw [6, 7, 9, 14] (fun tv _ vi iv wr => ∃ (i vn vc tb : Nat) (vp : Option Addr), i ≤ 52 ∧ iv = .int .i64 i ∧ tv = .pointer (some ⟨tb, 0, none⟩) ∧ vi = .slice vp vn vc ∧ ∃ t g st m j l, DrJ w wr tb i t g st m j l mb R (.slice vp vn vc) db T) (fun _ _ _ iv _ => 100 - (intOf iv).toNat)
      case atStart => exact ⟨0, vn, vc, tb, vp, by omega, rfl, rfl, rfl, _, _, _, _, _, _, HJ.out⟩
      case round =>
        clear HJ
        obtain ⟨i, vn, vc, tb, vp, hi, rfl, rfl, rfl, t, g, st, m, j, l, hJ⟩ := hrel
        have HJ := Lib.hid hJ
        have HB := Lib.hid (tbegin_any hJ.dw.ti.tg)
        have HE := Lib.hid (tend_any hJ.dw.ti.tg)
        have hbeg := hJ.dw.ti.rc.row.beg
        have hend := hJ.dw.ti.rc.row.end_
        rw [hJ.tot] at hend
        rw [hbeg] at HB
        rw [hend] at HE
        obtain ⟨bg, hbg⟩ : ∃ bg, bg = 1024 * i := ⟨_, rfl⟩
        rw [← hbg] at HB
        have HBG := Lib.hid hbg
        have hbl : bg ≤ 60000 := by omega
        clear hJ hbeg hend hbg
        go_wp2_with fail
        refine HB.out.mono ?_
        rintro e wa ⟨rfl, rfl⟩
        go_wp2_with fail
        refine HE.out.mono ?_
        rintro e wa ⟨rfl, rfl⟩
        by_cases hij : i + 1 < j
        · have hil := HJ.out.il
          have hwf := HJ.out.wf hT2
          have HD := Lib.hid (tdrop_any HJ.out.dw.ti.tg HJ.out.dw.ti.rc (by omega) hij (le_of_lt' HJ.out.dw.ti.sorted) (by omega) (fun k hk => (hwf k hk).1))
          obtain ⟨at_, hat⟩ : ∃ a, a = 1024 * (i + 1) := ⟨_, rfl⟩
          have hab : at_ = bg + 1024 := by have := HBG.out; omega
          have HAT := Lib.hid hat
          have hi2 : i + 1 ≤ 52 := by
            have h1 := HJ.out.dw.ti.rc.tight hij
            have h2 : 1024 * (i + 1) ≤ 1024 * (j - 1) := Nat.mul_le_mul_left 1024 (by omega)
            have h3 := HJ.out.tot
            omega
          clear hil hwf hat
          go_wp2_with fail
          refine HD.out.mono ?_
          intro e wb hto
          obtain ⟨l1, l2, t', g', m', st', e1, e2, rfl, hT', hd', hsy, hcap', hchg, hfp, hrb, hft⟩ := HJ.out.dw.ti.drop hij hto
          rw [← HAT.out]
          have hdw := HJ.out.dw.call (S := fun q => q = t.rb ∨ q ∈ g.fp ∨ q ∈ t.foot tb) hT' hchg (fun x hx => by
            rcases hx with y | y | y
            · exact .inr (.inl y)
            · exact .inr (.inr y)
            · exact .inl y) (fun x hx => by
            rcases hx with y | y | y
            · exact .inl (.inl (by rw [← hft]; exact y))
            · exact .inl (.inr (.inl (by rw [y, hrb])))
            · rcases hfp x y with z | z
              · exact .inl (.inr (.inr z))
              · exact .inr z)
          have hrecs := HJ.out.recs
          rw [e1, recsOf_app, e2] at hrecs
          have hnl := HJ.out.nl
          rw [e1, notesI_app, List.length_append, e2] at hnl
          have htot := HJ.out.tot
          rw [e1, bytesI_app, List.length_append, e2] at htot
          have HDW := Lib.hid hdw
          have HL := Lib.hid (And.intro e1 (And.intro e2 (And.intro hrecs.2 (And.intro hnl (And.intro htot (hd'.trans HJ.out.dd))))))
          have HB2 := Lib.hid (tbegin_any hdw.ti.tg)
          have HE2 := Lib.hid (tend_any hdw.ti.tg)
          have hbeg := hdw.ti.rc.row.beg
          have hend := hdw.ti.rc.row.end_
          rw [show 1024 * (i + 1) + (bytesI l2).length = T from by omega] at hend
          rw [hbeg, ← HAT.out] at HB2
          rw [hend] at HE2
          clear hto e1 e2 hT' hd' hsy hcap' hchg hfp hrb hft hdw hrecs hnl htot hbeg hend
          have q1 : ((at_ : Int) != (bg : Int) + 1024) = false := by simp; omega
          go_upto_region 26 with fail
          go_wp2_with fail
          refine HB2.out.mono ?_
          rintro e wc ⟨rfl, rfl⟩
          go_wp2_with fail
          refine HE2.out.mono ?_
          rintro e wc ⟨rfl, rfl⟩
          go_upto_if 104 with fail
          go_cut [6, 7] from 65 to 164 (fun tv ev wx => ∃ (tb2 : Nat) (t2 : TapeM) (g2 : Gh) (st2 : St) (m2 : RowM) (j2 : Nat), tv = .pointer (some ⟨tb2, 0, none⟩) ∧ DrW w wx tb2 t2 g2 st2 m2 400 (i + 1) j2 l2 mb R (.slice vp vn vc) t.ids ∧ g2.d = db)
          case first =>
            cases again
            · go_wp2_with fail
              go_meet
              case rel => exact ⟨_, _, _, _, _, _, rfl, HDW.out, HL.out.2.2.2.2.2⟩
            · have HSY := Lib.hid (tsync_any HDW.out.ti.tg HDW.out.ti.rc (by omega))
              go_wp2_with fail
              refine HSY.out.mono ?_
              rintro e wd ⟨rfl, g3, m3, st3, r1, r2, r3, r4, r5, r6, r7, r8, r9⟩
              have hT3 : TapeI w wd tb t' g3 st3 m3 400 (i + 1) j l2 := ⟨r1, r5, r3.trans HDW.out.ti.hd, HDW.out.ti.la, HDW.out.ti.tn⟩
              have hW3 := HDW.out.call hT3 r7 (fun x hx => .inr hx) (fun x hx => by
                rcases hx with y | y | y
                · exact .inl (.inl y)
                · exact .inl (.inr (.inl y))
                · rcases r8 x y with z | z
                  · exact .inl (.inr z)
                  · exact .inr z)
              have hd3 : g3.d = db := r2.trans HL.out.2.2.2.2.2
              have hdg : DiskG w wd db g3 st3 := ⟨r1.row.disk, hd3, r1.row.chg, r1.row.low⟩
              have HOP := Lib.hid (topen_laid hdg HTB.out hT3.rc (by omega) hT3.hd hT3.la (by have := HL.out.2.2.2.2.1; omega) (by have := HL.out.2.2.2.2.1; omega))
              have HW3 := Lib.hid hW3
              have HD3 := Lib.hid hd3
              clear r1 r2 r3 r4 r5 r6 r7 r8 r9 hT3 hW3 hd3 hdg
              go_wp2_with fail
              refine HOP.out.mono ?_
              rintro e wf ⟨tb2, t2, g4, m4, st4, j4, rfl, x1, x2, x3, x4, x5, x6, x7, x8, x9, x10, x11, x12⟩
              have hW4 := HW3.out.call x2 x8 (fun x hx => .inr (.inr hx)) (fun x hx => by
                rcases hx with y | y | y
                · exact .inr (x10 x y)
                · exact .inr (by rw [y]; exact x11)
                · rcases x12 x y with z | z
                  · exact .inl (.inr (.inr z))
                  · exact .inr z)
              have HW4 := Lib.hid (And.intro hW4 (x3.trans HD3.out))
              clear x1 x2 x3 x4 x5 x6 x7 x8 x9 x10 x11 x12 hW4
              go_wp2_with fail
              go_meet
              case rel => exact ⟨_, _, _, _, _, _, rfl, HW4.out.1, HW4.out.2⟩
          case rest =>
            obtain ⟨tb2, t2, g2, st2, m2, j2, rfl, hdw2, hd2⟩ := hcut
            have hti := HJ.out.dw.ti
            rw [HL.out.1] at hti
            obtain ⟨hsp, hA, hB⟩ := ids_split hti HL.out.2.1
            obtain ⟨A, hAe⟩ : ∃ A, A = (notesI (1024 * i) l1).map (·.1) := ⟨_, rfl⟩
            obtain ⟨B, hBe⟩ : ∃ B, B = (notesI (1024 * i + 1024) l2).map (·.1) := ⟨_, rfl⟩
            rw [← hAe, ← hBe] at hsp
            rw [← hAe, ← HAT.out] at hA
            rw [← hBe, ← HAT.out] at hB
            have hB2 : t2.ids = B := by rw [hdw2.ti.tn.ids, hBe]; rfl
            have HSP := Lib.hid hsp
            have HA := Lib.hid hA
            have HBB := Lib.hid hB
            have HB2' := Lib.hid hB2
            have HBE := Lib.hid hBe
            obtain ⟨la, hla⟩ : ∃ la, la = A.length := ⟨_, rfl⟩
            have HLA := Lib.hid hla
            have HDW2 := Lib.hid hdw2
            have HD2 := Lib.hid hd2
            clear hti hsp hA hB hAe hBe hB2 hla hdw2 hd2 HJ HB2 HE2 HDW q1 hij
            go_wp2_with fail
            go_loopw [9] (fun v9 wr => ∃ (k vn' vc' : Nat) (vp' : Option Addr), k ≤ la ∧ v9 = .slice vp' vn' vc' ∧ DrW w wr tb2 t2 g2 st2 m2 400 (i + 1) j2 l2 mb R (.slice vp' vn' vc') (t.ids.drop k)) (fun v9 _ => slLen v9)
            case atStart => exact ⟨0, vn, vc, vp, Nat.zero_le _, rfl, HDW2.out⟩
            case round =>
              clear HDW2
              obtain ⟨k, vn', vc', vp', hk, rfl, hW⟩ := hrel
              have HW := Lib.hid hW
              by_cases hkl : k < la
              · obtain ⟨x, hx⟩ : ∃ x, A[k]? = some x := ⟨_, List.getElem?_eq_getElem (by rw [← HLA.out]; exact hkl)⟩
                obtain ⟨hx0, hx1⟩ := HA.out x (List.mem_of_getElem? hx)
                have hdx : t.ids.drop k = x :: t.ids.drop (k + 1) := by
                  obtain ⟨hkk, hxe⟩ := List.getElem?_eq_some_iff.1 hx
                  rw [HSP.out, List.drop_eq_getElem_cons (by rw [List.length_append]; omega), List.getElem_append_left hkk, hxe]
                rw [hdx] at hW
                rcases own_form' hW.own with ⟨h0, hz0⟩ | ⟨gq, o, c, hve, hcap, hcell⟩
                · cases h0
                · injection hve with e1 e2 e3
                  subst e1
                  subst e3
                  have hc0 : wr.cell? ⟨gq, o, none⟩ = some (.int .i64 x) := by
                    have := hcell 0 (by simp)
                    rw [Nat.add_zero] at this
                    exact this
                  obtain ⟨xq, hxq⟩ : ∃ y : Nat, x = (y : Int) := ⟨x.toNat, by omega⟩
                  subst hxq
                  have hvn0 : 0 < vn' := by rw [e2]; simp
                  have hR := tread_trim hW.ti.tg (xq : Int) hx0 (by rw [hW.ti.rc.row.beg, ← HAT.out]; exact hx1)
                  have htl := hW.tail e2
                  have hcv : vn' ≤ vc' := by rw [e2]; exact hcap
                  have HR := Lib.hid hR
                  have HTL := Lib.hid htl
                  have HE2 := Lib.hid e2
                  clear hW hx hdx hcap hcell hR htl e2
                  go_wp2_with fail
                  refine HR.out.mono ?_
                  rintro e w3 ⟨vk, rfl, hs3, hc3, hb3⟩
                  obtain ⟨za, zc, hvk⟩ := hs3.form
                  have hvk : vk = .slice za 0 zc := hvk
                  subst hvk
                  have HB3 := Lib.hid hb3
                  unfold zeroM MsgM.val MsgM.cells
                  dsimp only
                  have hc0' := (hb3.cell (p := ⟨gq, o, none⟩) (World.block_lt_of_cell? _ _ hc0)).trans hc0
                  clear hs3 hc3 hb3 hc0
                  go_wp2_with fail
                  refine ⟨⟨k + 1, _, _, _, by omega, rfl, (HTL.out.new ((Chg.of_below HB3.out : Chg (fun _ => False) wr w3).trans (Chg.alloc _ (Chg.refl _ _) _) (fun _ _ x => x)))⟩, by simp [slLen]; omega⟩
              · have hke : k = la := by omega
                subst hke
                have hdx : t.ids.drop k = B := by rw [HSP.out, HLA.out, List.drop_left]
                rw [hdx] at hW
                have HWB := Lib.hid hW
                clear HW
                by_cases h0 : vn' = 0
                case' pos =>
                  have hd0 : decide ((0 : Int) < (vn' : Int)) = false := by simp; omega
                  have hd1 : ¬ 0 < vn' := by omega
                  clear hW hk hkl hdx h0
                  go_upto_region 39 with fail
                  clear hd0 hd1
                case' neg =>
                  rcases own_form' hW.own with ⟨h1, hz0⟩ | ⟨gq, o, c, hve, hcap, hcell⟩
                  · injection hz0 with e1 e2 e3
                    exact absurd e2 h0
                  injection hve with e1 e2 e3
                  have HVP := Lib.hid e1
                  subst e1
                  subst e3
                  obtain ⟨x, B', hBx⟩ : ∃ x B', B = x :: B' := by
                    cases hBB : B with
                    | nil => rw [hBB] at e2; exact absurd e2 h0
                    | cons x B' => exact ⟨x, B', rfl⟩
                  have hx1 := HBB.out x (by rw [hBx]; exact List.mem_cons_self ..)
                  have hc0 : wr.cell? ⟨gq, o, none⟩ = some (.int .i64 x) := by
                    have := hcell 0 (by rw [hBx]; simp)
                    rw [Nat.add_zero, hBx] at this
                    exact this
                  have hvn0 : 0 < vn' := by omega
                  have hxn : ¬ x < (at_ : Int) := by omega
                  clear hW hk hkl hdx hcap hcell e2 h0 hBx
                  go_upto_region 39 with fail
                  clear hc0 hvn0 hxn hx1 HVP
                  obtain ⟨vp', hvp⟩ : ∃ p, p = some (⟨gq, o, none⟩ : Addr) := ⟨_, rfl⟩
                  rw [← hvp] at HWB ⊢
                  clear hvp
                all_goals
                  obtain ⟨wq, hwq⟩ : ∃ W, W = wr := ⟨_, rfl⟩
                  subst hwq
                  have hW := HWB.out
                  have hBl : B.length ≤ 80 := by
                    have h1 := HL.out.2.2.2.1
                    rw [HBE.out, List.length_map]
                    omega
                  have hvl : vn' = B.length := by obtain ⟨p', c', e⟩ := hW.own.slice; injection e
                  have hTI := tids_any hW.ti.tg.tape (le_of_lt' hW.ti.sorted) (by rw [HB2'.out]; omega) 0
                  rw [HB2'.out, lowN_zero (fun x hx => by have := HBB.out x hx; omega), List.drop_zero] at hTI
                  have HTI := Lib.hid hTI
                  have HIU := Lib.hid (ints_of_own hW.own)
                  have HVL := Lib.hid hvl
                  have hvn80 : vn' ≤ 80 := by omega
                  clear hW hTI hvl hBl
                  go_wp2_with fail
                  refine HTI.out.mono ?_
                  rintro e w4 ⟨v4, rfl, ho4, hb4⟩
                  have hc4 : Chg (fun _ => False) wq w4 := Chg.of_below hb4
                  have hi4 := ints_of_row ho4
                  obtain ⟨a4, c4, rfl⟩ := ints_form hi4
                  have hIN := ints_any _ _ B B w4 hi4 (ints_new HIU.out hc4) (by have := HVL.out; omega)
                  rw [decide_eq_true rfl] at hIN
                  have HIN := Lib.hid hIN
                  have HC4 := Lib.hid hc4
                  obtain ⟨n4, hn4⟩ : ∃ n4, n4 = B.length := ⟨_, rfl⟩
                  rw [← hn4] at HIN ⊢
                  clear ho4 hb4 hc4 hi4 hIN hn4
                  go_wp2_with fail
                  refine HIN.out.mono ?_
                  rintro e w5 ⟨rfl, y5, rfl⟩
                  have HC5 : Hid (Chg (fun _ => False) wq (w4.drewN y5)) := Lib.hid (HC4.out.trans ((Chg.refl (fun _ => False) w4).drewN y5) (fun _ _ x => x))
                  obtain ⟨w6, hw6⟩ : ∃ W, W = w4.drewN y5 := ⟨_, rfl⟩
                  rw [← hw6] at HC5 ⊢
                  clear hw6 HIN HTI
                  go_wp2_with fail
                  go_loopw [144] (fun vj wr => ∃ j : Nat, j ≤ vn' ∧ vj = .int .i64 j ∧ Chg (fun _ => False) wq wr) (fun vj _ => vn' - (intOf vj).toNat)
                  case atStart => exact ⟨0, Nat.zero_le _, rfl, HC5.out⟩
                  case round =>
                    obtain ⟨j, hj, rfl, hcr⟩ := hrel
                    by_cases hjl : j < vn'
                    · have hW := HWB.out.new hcr
                      obtain ⟨ib, io, hab, hck⟩ := ints_cell (k := j) (ints_new HIU.out hcr) (by have := HVL.out; omega)
                      obtain ⟨x, hx⟩ : ∃ x, x = B.getD j 0 := ⟨_, rfl⟩
                      have hxm : x ∈ B := by
                        rw [hx, List.getD_eq_getElem?_getD, List.getElem?_eq_getElem (by have := HVL.out; omega)]
                        exact List.getElem_mem _
                      rw [← hx] at hck
                      rw [HBE.out] at hxm
                      obtain ⟨y, hy, hyx⟩ := List.mem_map.1 hxm
                      obtain ⟨q1, M, bs, q2, hl2, hkd, hye⟩ := notesI_split y hy
                      have hxe : x = ((1024 * (i + 1) + (bytesI q1).length : Nat) : Int) := by rw [← hyx, hye]; show ((1024 * i + 1024 + (bytesI q1).length : Nat) : Int) = _; omega
                      have hrec := HL.out.2.2.1
                      rw [hl2] at hrec
                      obtain ⟨rv, hrv, hmi⟩ := hrec.at_ hkd
                      have hti := hW.ti
                      rw [hl2] at hti
                      have htt := HL.out.2.2.2.2.1
                      rw [hl2, bytesI_app, List.length_append] at htt
                      have hRd := hti.read hkd (by omega)
                      have hpo : putO M = some bs := ((laidAt_app.1 hti.la).2.1).1
                      have hkf := keys_few hpo hkd
                      obtain ⟨xn, hxn⟩ : ∃ y, y = 1024 * (i + 1) + (bytesI q1).length := ⟨_, rfl⟩
                      rw [← hxn] at hRd hxe
                      subst hxe
                      have hrv2 : getK R (xn : Int) = some rv := by rw [hxn]; exact hrv
                      have hxs : xn ≤ 60000 := by omega
                      have HRD := Lib.hid hRd
                      have HMI := Lib.hid hmi
                      have HRV := Lib.hid hrv2
                      have HKF := Lib.hid hkf
                      have HCR := Lib.hid hcr
                      have HWJ := Lib.hid hW
                      clear hW hx hxm hyx hye hy hl2 hkd hrec hrv hti htt hRd hpo hkf hxn hrv2 hcr hmi
                      subst hab
                      go_wp2_with fail
                      refine HRD.out.mono ?_
                      rintro e w7 ⟨vk, rfl, hs7, hcp7, hb7⟩
                      obtain ⟨m1, mq, m3, m4, m5, m6, m7, m8, m9, m10⟩ := M
                      obtain ⟨ka, kc, hvk⟩ := hs7.form
                      dsimp only at hvk hs7
                      obtain ⟨kl, hkl⟩ : ∃ l, l = m10.length := ⟨_, rfl⟩
                      rw [← hkl] at hvk
                      subst hvk
                      obtain ⟨w8, hw8⟩ : ∃ W, W = w7.alloc (.cells #[.int .i64 m1, .int .i64 mq, .int .i64 m3, .int .i64 m4, .int .i64 m5, .int .i64 m6, .string m7, .string m8, .string m9, .slice ka kl kc] 38) := ⟨_, rfl⟩
                      have hb8 : Below w7.heap.size w7 w8 := hw8 ▸ (Below.refl _ _).alloc (Nat.le_refl _) _
                      have hbx : Box w8 w7.heap.size #[.int .i64 m1, .int .i64 mq, .int .i64 m3, .int .i64 m4, .int .i64 m5, .int .i64 m6, .string m7, .string m8, .string m9, .slice ka kl kc] := hw8 ▸ Box.new w7 _
                      have hc8 : Chg (fun _ => False) wr w8 := (Chg.of_below hb7 : Chg (fun _ => False) wr w7).trans (Chg.of_below hb8) (fun _ _ x => x)
                      have hmap := (HWJ.out.new hc8).map
                      have hlk := hmap.look (t := 67) (e := 38) Tryz.underlying67 (z := msgV0) (msg_zero w8) (xn : Int) (twf_nat xn (by omega)) false
                      rw [show (getK R (xn : Int)).getD msgV0 = rv from by rw [HRV.out]; rfl] at hlk
                      have hval := HMI.out.val
                      have hlk : (Instr.lookup 67 (.map (some mb)) (.int .i64 (xn : Int)) false).run Tryz.prog w8 = .ok (.agg #[.int .i64 m1, .int .i64 mq, .int .i64 m3, .int .i64 m4, .int .i64 m5, .int .i64 m6, .string m7, .string m8, .string m9, .slice rv.addr rv.len rv.cap]) w8 := hlk.trans (by
                        show Result.ok rv.ev w8 = _
                        rw [hval]
                        rfl)
                      have hsm := rsame_any ⟨m1, mq, m3, m4, m5, m6, m7, m8, m9, m10⟩ ⟨m1, mq, m3, m4, m5, m6, m7, m8, m9, m10⟩ (.slice ka kl kc) (.slice rv.addr rv.len rv.cap) true w8 ((strs_up hs7 (Nat.zero_le _)).below hb8 (Nat.le_refl _)) (HMI.out.keys.below (chg_below ((HWJ.out.ti.tg.row.chg).trans hc8 (fun _ _ x => x))) (Nat.le_refl _)) HKF.out HKF.out (sameB_iff.2 rfl)
                      unfold RSameTo MsgM.val MsgM.cells at hsm
                      dsimp only at hsm
                      have HSM := Lib.hid hsm
                      have HW8 := Lib.hid hw8
                      have HC8 := Lib.hid hc8
                      have hxm := hbx.cell
                      clear hs7 hcp7 hb7 hkl hw8 hb8 hbx hc8 hmap hval hsm hck
                      unfold MsgM.val MsgM.cells
                      dsimp only
                      go_upto_region 45 with fail
                      rw [← HW8.out]
                      go_wp2_with fail
                      refine HSM.out.mono ?_
                      rintro e w9 ⟨rfl, hb9⟩
                      have HC9 : Hid (Chg (fun _ => False) wq w9) := Lib.hid (HCR.out.trans (HC8.out.trans (Chg.of_below hb9 : Chg (fun _ => False) w8 w9) (fun _ _ x => x)) (fun _ _ x => x))
                      clear hb9 hlk hxm
                      go_wp2_with fail
                      exact ⟨⟨j + 1, by omega, by go_num, HC9.out⟩, by simp [intOf]; omega⟩
                    · have HWJ := Lib.hid (HWB.out.new hcr)
                      clear hcr
                      go_wp2_with fail
                      refine ⟨⟨i + 1, vn', vc', tb2, vp', hi2, by go_num, rfl, rfl, t2, g2, st2, m2, j2, l2, ⟨by rw [HB2'.out]; exact HWJ.out, by have := HL.out.2.2.2.2.1; omega, ?_, HL.out.2.2.1, HD2.out⟩⟩, by simp [intOf]; omega⟩
                      have := HL.out.2.2.2.1
                      exact Nat.le_trans (Nat.le_add_left _ _) this
        · have HD := Lib.hid (tdrop_few HJ.out.dw.ti.tg HJ.out.dw.ti.rc (by omega))
          have hle : T ≤ bg + 1024 := by
            have h1 := HJ.out.dw.ti.rc.row.e1
            have h2 : 1024 * j ≤ 1024 * (i + 1) := Nat.mul_le_mul_left 1024 (by omega)
            have h3 := HJ.out.tot
            have := HBG.out
            omega
          go_wp2_with fail
          refine HD.out.mono ?_
          rintro e wb ⟨rfl, g', m', st', r1, r2, r3, r4, r5, r6, r7, r8, r9⟩
          have HC9 := Lib.hid (chg_below r1.row.chg)
          clear r1 r2 r3 r4 r5 r6 r7 r8 r9
          go_wp2_with fail
          go_ret
          exact ⟨by show Ending.returned (.bool (decide ((T : Int) ≤ (bg : Int) + 1024))) = _; rw [decide_eq_true (by omega)], HC9.out⟩
end Go.Proofs.YtigkoeledflhgaaGreatDoor

