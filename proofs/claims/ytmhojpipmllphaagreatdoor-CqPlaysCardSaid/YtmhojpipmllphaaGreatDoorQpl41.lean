/-
  Part 41: what the statement needs of these texts: QWt.
-/
import Derived.BigQuiet
import Derived.BigRegion
import Derived.Deep.AppendLies
import Derived.Deep.CutBlock
import Derived.Deep.DeepCutAuto
import Derived.Deep.DrawnRows
import Derived.Deep.Grids
import Derived.Deep.OwnRows
import Derived.Deep.QuietTactic
import Derived.Deep.RegionHeld3
import Derived.DeepKeys4
import Derived.IntWalk
import Derived.Laws.CopyOwn
import Derived.Laws.OwnMore
import Derived.Laws.RangeAny
import Derived.Lib.AppendStr
import Derived.Lib.AppendZerosOnto
import Derived.Lib.Atoi
import Derived.Lib.AtoiErrMem
import Derived.Lib.BufferRead
import Derived.Lib.BufferWrite
import Derived.Lib.Builder
import Derived.Lib.Hide
import Derived.Lib.ItoaNum
import Derived.Lib.LaidTab
import Derived.Lib.MinMax
import Derived.Lib.OthersKept
import Derived.Lib.Repeat
import Derived.Lib.SliceRun
import Derived.Lib.Slices
import Derived.Lib.SmallJoins
import Derived.Lib.Strings
import Derived.Lib.UnsafeStr
import Derived.Maps.AppendAt
import Derived.Maps.OwnSet
import Derived.Maps.RangeWalk
import Derived.OpenShut
import Derived.Orders
import Derived.ProofKit
import Derived.RowKit
import Derived.Shelf.GgClosure.StringsIndexFunc
import Derived.Shelf.GgClosure.StringsIndexFuncTop
import Derived.Shelf.LaysM
import Derived.Shelf.SlSortCmp.NoneTotal
import Derived.Shelf.Slices.In.SortNone
import Derived.Shelf.Slices.SearchI
import Derived.Shelf.Small.Wraps
import Derived.Shelf.Sort.Plain
import Derived.Shelf.Strconv.Atoi
import Derived.Shelf.Strconv.Itoa3
import Derived.Shelf.Strings.Builder1
import Derived.Shelf.Strings.Prefix
import Derived.Shelf.Strings.Repeat
import Derived.Sort.KeysCollected
import Derived.Sort.OwnSorted
import Derived.StillTailTactics
import Derived.StringKeys
import Derived.Test.YtmhojpipmllphaaGreatDoorProg
import Derived.Test.YtmhojpipmllphaaGreatDoorRows
import Derived.WalkKit
import Derived.WalkLawsBesides
import Derived.WalkSmall
import Derived.WalkSpells
import Derived.Test.YtmhojpipmllphaaGreatDoorQpl1
import Derived.Test.YtmhojpipmllphaaGreatDoorQpl2
import Derived.Test.YtmhojpipmllphaaGreatDoorQpl3
import Derived.Test.YtmhojpipmllphaaGreatDoorQpl4
import Derived.Test.YtmhojpipmllphaaGreatDoorQpl5
import Derived.Test.YtmhojpipmllphaaGreatDoorQpl6
import Derived.Test.YtmhojpipmllphaaGreatDoorQpl7
import Derived.Test.YtmhojpipmllphaaGreatDoorQpl8
import Derived.Test.YtmhojpipmllphaaGreatDoorQpl10
import Derived.Test.YtmhojpipmllphaaGreatDoorQpl11
import Derived.Test.YtmhojpipmllphaaGreatDoorQpl12
import Derived.Test.YtmhojpipmllphaaGreatDoorQpl13
import Derived.Test.YtmhojpipmllphaaGreatDoorQpl14
import Derived.Test.YtmhojpipmllphaaGreatDoorQpl15
import Derived.Test.YtmhojpipmllphaaGreatDoorQpl16
import Derived.Test.YtmhojpipmllphaaGreatDoorQpl17
import Derived.Test.YtmhojpipmllphaaGreatDoorQpl18
import Derived.Test.YtmhojpipmllphaaGreatDoorQpl19
import Derived.Test.YtmhojpipmllphaaGreatDoorQpl20
import Derived.Test.YtmhojpipmllphaaGreatDoorQpl21
import Derived.Test.YtmhojpipmllphaaGreatDoorQpl22
import Derived.Test.YtmhojpipmllphaaGreatDoorQpl23
import Derived.Test.YtmhojpipmllphaaGreatDoorQpl24
import Derived.Test.YtmhojpipmllphaaGreatDoorQpl26
import Derived.Test.YtmhojpipmllphaaGreatDoorQpl27
import Derived.Test.YtmhojpipmllphaaGreatDoorQpl28
import Derived.Test.YtmhojpipmllphaaGreatDoorQpl29
import Derived.Test.YtmhojpipmllphaaGreatDoorQpl30
import Derived.Test.YtmhojpipmllphaaGreatDoorQpl31
import Derived.Test.YtmhojpipmllphaaGreatDoorQpl32
import Derived.Test.YtmhojpipmllphaaGreatDoorQpl33
import Derived.Test.YtmhojpipmllphaaGreatDoorQpl34
import Derived.Test.YtmhojpipmllphaaGreatDoorQpl35
import Derived.Test.YtmhojpipmllphaaGreatDoorQpl36
import Derived.Test.YtmhojpipmllphaaGreatDoorQpl37
import Derived.Test.YtmhojpipmllphaaGreatDoorQpl38
import Derived.Test.YtmhojpipmllphaaGreatDoorQpl39
import Derived.Test.YtmhojpipmllphaaGreatDoorQpl40
namespace Go.Proofs.YtmhojpipmllphaaGreatDoor
open Go.RowKit Go.Deep
set_option linter.unusedVariables false
set_option linter.unusedSimpArgs false
attribute [local go_sem] fr_opt
theorem prev_less {w0 w : World} {qb n lo : Nat} {v : Value} {Ms : List MoM} {l : List QK} {jp j : Nat} {z y : QK} (h : PlI w0 w qb n lo v Ms) (hp : (l.map Subtype.val).Perm (Ms.map MoM.key)) (hs : QSorted l) (hy : l[j]? = some y) (hz : l[jp]? = some z) (hj : jp < j) : qLess z y := by
  obtain ⟨mv, g, st, L, _, h2, _⟩ := h.ex
  have hn : (l.map Subtype.val).Nodup := hp.nodup_iff.2 h2.keys
  have hn2 : l.Pairwise (fun a b => a.1 ≠ b.1) := List.pairwise_map.1 hn
  obtain ⟨a1, a2⟩ := List.getElem?_eq_some_iff.1 hy
  obtain ⟨b1, b2⟩ := List.getElem?_eq_some_iff.1 hz
  have hnl : ¬ qLess y z := by
    have := (List.pairwise_iff_getElem.1 hs) jp j b1 a1 hj
    rwa [a2, b2] at this
  rcases qLess_tri z y with h3 | h3 | h3
  · exact h3
  · exfalso
    have := (List.pairwise_iff_getElem.1 hn2) jp j b1 a1 hj
    rw [a2, b2] at this
    exact this (congrArg _ h3)
  · exact absurd h3 hnl
def T4I (f : Nat → Value) (w5 : World) (qb al ac gc : Nat) (aa ga : Option Addr) (a : Act) (W : World) : Prop := ∃ (f' : Nat → Value) (j : Nat), a = Fr 400 f' ∧ f' 0 = f 0 ∧ f' 3 = .pointer (some ⟨qb, 0, none⟩) ∧ f' 5 = .slice aa al ac ∧ f' 20 = .slice ga al gc ∧ f' 36 = f 36 ∧ f' 37 = f 37 ∧ f' 38 = f 38 ∧ f' 299 = .slice ga al gc ∧ f' 300 = .int .i64 (al : Int) ∧ f' 301 = .int .i64 (j : Int) ∧ j ≤ al ∧ Below w5.heap.size w5 W
def T4M (al : Nat) (a : Act) (_ : World) : Nat := al - (intOf (a.tmps.getD 301 undef)).toNat
set_option maxHeartbeats 16000000 in
set_option maxRecDepth 100000 in
theorem tl_any (f : Nat → Value) {w wr : World} {qb k lo : Nat} {vv : Value} {Ms : List MoM} (h : PlI w wr qb (k + 1) lo vv Ms) (hk : k < 100) (f3 : f 3 = .pointer (some ⟨qb, 0, none⟩)) (f5 : f 5 = vv) (Q : Exit → Act → World → Prop)
    (hQ : ∀ f' W, PlI w W qb (k + 1) lo vv Ms → f' 0 = f 0 → f' 3 = f 3 → f' 5 = f 5 → f' 36 = f 36 → f' 37 = f 37 → f' 38 = f 38 → Q .normal (Fr 400 f') W) :
    Code.wp Tryz.prog tlC Q (Fr 400 f) wr := by
  have HP := Lib.hid h
  have HQ := Lib.hid hQ
  obtain ⟨aa, ac, hva⟩ := h.form
  subst hva
  have HB := Lib.hid (h.all (by omega) (Chg.refl _ _))
  have hlm := h.lenM
  clear h hQ
  rw [fr_lit400 f, f3, f5]
  conv => arg 2; whnf
  go_wp2_with fail
  refine HB.out.mono ?_
  rintro e w5 ⟨u, l, rfl, hp, hs, ho, hb⟩
  obtain ⟨ga, gc, hu⟩ : ∃ a c, u = .slice a l.length c := by
    rcases ho.2 with ⟨e, h0⟩ | ⟨g, cap, cur, e, _⟩
    · rw [h0]; exact ⟨_, _, e⟩
    · exact ⟨_, _, e⟩
  subst hu
  have hll : l.length = Ms.length := by
    have := hp.length_eq
    simpa using this
  obtain ⟨al, hal⟩ : ∃ n, n = Ms.length := ⟨_, rfl⟩
  rw [hll, ← hal] at ho ⊢
  rw [← hal] at hlm f5
  have HAL := Lib.hid hal
  have HPP := Lib.hid hp
  have HSS := Lib.hid hs
  have HOO := Lib.hid ho
  have HP5 := Lib.hid (HP.out.new (Chg.of_below hb))
  have HBB := Lib.hid hb
  clear hp hs ho hb hll hal
  go_wp2_with fail
  refine wp_loop (T4I f w5 qb al ac gc aa ga) (T4M al) ?_ ?_
  · exact ⟨_, 0, lit_fr400 _ rfl, rfl, rfl, rfl, rfl, rfl, rfl, rfl, rfl, rfl, rfl, Nat.zero_le _, Below.refl _ _⟩
  rintro a wr2 ⟨f2, j, rfl, y0, y3, y5, y20, y36, y37, y38, y299, y300, y301, hj, hbj⟩
  have HM : Hid (∀ a' w', a'.tmps.getD 301 undef = .int .i64 ((j + 1 : Nat) : Int) → j < al → T4M al a' w' < T4M al (Fr 400 f2) wr2) := Lib.hid fun a' w' h1 h2 => by
    have h4 : (Fr 400 f2).tmps.getD 301 undef = .int .i64 (j : Int) := (fr_get (by decide)).trans y301
    unfold T4M
    rw [h1, h4]
    simp only [intOf, Int.toNat_natCast]
    omega
  obtain ⟨M0, hM0⟩ : ∃ M0, M0 = T4M al (Fr 400 f2) wr2 := ⟨_, rfl⟩
  rw [← hM0] at HM ⊢
  have HBj := Lib.hid hbj
  clear hM0 hbj
  have HPW : Hid (PlI w wr2 qb (k + 1) lo (.slice aa al ac) Ms) := Lib.hid (by rw [HAL.out]; exact HP5.out.new (Chg.of_below HBj.out))
  rw [fr_lit400 f2, y0, y3, y5, y20, y36, y37, y38, y299, y300, y301]
  by_cases hlt : j < al
  case neg =>
    have hltI : decide ((j : Int) < (al : Int)) = false := decide_eq_false (by omega)
    go_wp2_with fail
    rw [lit_fr400 _ rfl]
    exact HQ.out _ _ (by have := HPW.out; rw [HAL.out] at this; exact this) rfl f3.symm f5.symm rfl rfl rfl
  have hltI : decide ((j : Int) < (al : Int)) = true := decide_eq_true (by omega)
  have hll : l.length = Ms.length := by
    have := HPP.out.length_eq
    simpa using this
  have hjl : j < l.length := by have := HAL.out; omega
  obtain ⟨y, hy⟩ : ∃ y, l[j]? = some y := ⟨_, List.getElem?_eq_getElem hjl⟩
  have hym : y.1 ∈ Ms.map MoM.key := HPP.out.subset (List.mem_map.2 ⟨y, List.mem_of_getElem? hy, rfl⟩)
  obtain ⟨m, hm, hmk⟩ := List.mem_map.1 hym
  have hoo : w5.ownsRow wr.heap.size 52 4 (.slice ga l.length gc) l.length (l.flatMap fun k => [.string k.1.1, .int .i64 k.1.2, .int .i64 (((lnQ Ms k).2.1 : Nat) : Int), .int .i64 (((lnQ Ms k).1 + (lnQ Ms k).2.2.length : Nat) : Int)]) := by
    have h := HOO.out
    rw [HAL.out, ← hll] at h
    exact h
  have HOW : Hid (∀ W, Below w5.heap.size w5 W → ∀ (t : Nat) (z : QK), l[t]? = some z → ∃ g, ga = some ⟨g, 0, none⟩ ∧ W.cell? ⟨g, t * 4, none⟩ = some (.string z.1.1) ∧ W.cell? ⟨g, t * 4 + 1, none⟩ = some (.int .i64 z.1.2) ∧ W.cell? ⟨g, t * 4 + 2, none⟩ = some (.int .i64 (((lnQ Ms z).2.1 : Nat) : Int)) ∧ W.cell? ⟨g, t * 4 + 3, none⟩ = some (.int .i64 (((lnQ Ms z).1 + (lnQ Ms z).2.2.length : Nat) : Int))) := Lib.hid fun W hW t z hz => by
    obtain ⟨g, cap, hv, hg, hcs⟩ := own4_cell (F := fun k : QK => [.string k.1.1, .int .i64 k.1.2, .int .i64 (((lnQ Ms k).2.1 : Nat) : Int), .int .i64 (((lnQ Ms k).1 + (lnQ Ms k).2.2.length : Nat) : Int)]) (fun _ => rfl) hoo (Chg.of_below hW) hz
    injection hv with q1 _ _
    exact ⟨g, q1, hcs 0 (by decide), hcs 1 (by decide), hcs 2 (by decide), hcs 3 (by decide)⟩
  obtain ⟨g, hga, c0, c1, c2, c3⟩ := HOW.out wr2 HBj.out j y hy
  subst hga
  obtain ⟨r, hf, hfd⟩ := HPW.out.find_ (W := (wr2.alloc (.cells #[.string y.1.1, .int .i64 y.1.2, .int .i64 (((lnQ Ms y).2.1 : Nat) : Int), .int .i64 (((lnQ Ms y).1 + (lnQ Ms y).2.2.length : Nat) : Int)] 52))) (by omega) (Chg.alloc _ (Chg.refl _ _) _) y
  obtain ⟨iq, m', hi, hk', rfl, hml⟩ := hfd.resolve_right (fun h => h.2.1 m hm hmk)
  have hw1 : (lnQ Ms y).1 = m'.base := by rw [← hml]; rfl
  have hw2 : (lnQ Ms y).2.1 = m'.least := by rw [← hml]; rfl
  have hw3 : (lnQ Ms y).2.2.length = m'.es.length := by rw [← hml]; rfl
  obtain ⟨z1, z2, z3, z4⟩ := HPW.out.wfQ y
  have HLS0 := Lib.hid (fun W (h : Chg (fun _ => False) wr2 W) => HPW.out.least (W := W) (by omega) h y)
  have HNX0 := Lib.hid (fun W (h : Chg (fun _ => False) wr2 W) => HPW.out.next (W := W) (by omega) h y)
  obtain ⟨⟨kt, kn⟩, hyp⟩ := y
  obtain ⟨bs, hbs⟩ : ∃ b, b = m'.base := ⟨_, rfl⟩
  obtain ⟨ls, hls⟩ : ∃ b, b = m'.least := ⟨_, rfl⟩
  obtain ⟨el, hel⟩ : ∃ b, b = m'.es.length := ⟨_, rfl⟩
  have hsum : ((bs + el : Nat) : Int) = (bs : Int) + (el : Int) := by push_cast; rfl
  dsimp only at c0 c1 c2 c3 hf HLS0 HNX0
  rw [hw2, ← hls] at c2 hf HLS0
  rw [hw1, hw3, ← hbs, ← hel, hsum] at c3 hf HNX0
  obtain ⟨W6, hW6⟩ : ∃ W, W = wr2.alloc (.cells #[.string kt, .int .i64 kn, .int .i64 (ls : Int), .int .i64 ((bs : Int) + (el : Int))] 52) := ⟨_, rfl⟩
  obtain ⟨XB, hXB⟩ : ∃ b, b = wr2.heap.size := ⟨_, rfl⟩
  have hx6 : W6.heap[XB]? = some (.cells #[.string kt, .int .i64 kn, .int .i64 (ls : Int), .int .i64 ((bs : Int) + (el : Int))] 52 (0, 0)) := by rw [hW6, hXB]; exact heap_alloc_new wr2 _
  have hb6 : Below wr2.heap.size wr2 W6 := by rw [hW6]; exact (Below.refl _ _).alloc (Nat.le_refl _) _
  rw [← hW6] at hf
  have HF := Lib.hid hf
  obtain ⟨pp, cc, hv0, hat⟩ := HPW.out.mod.find
  injection hv0 with p1 p2 p3
  obtain ⟨bM, hpp, hlo', hbM, hfzM, hcsM⟩ := hat iq m' hi
  rw [← p1] at hpp
  subst hpp
  have hme : m' ∈ Ms := List.mem_of_getElem? hi
  have hap : m'.sl.ownBlock ≠ some bM := fun hx => HPW.out.mod.apart m' hme bM hx rfl
  obtain ⟨pe, ce, hse, _, _⟩ := (HPW.out.mod.es m' hme).plc hap
  have hb2 : wr2.cell? ⟨bM, iq * 5 + 2, none⟩ = some (.int .i64 (bs : Int)) := by rw [hcsM 2 (by decide), hbs]; rfl
  have hb3 : wr2.cell? ⟨bM, iq * 5 + 3, none⟩ = some (.int .i64 (ls : Int)) := by rw [hcsM 3 (by decide), hls]; rfl
  have hb4 : wr2.cell? ⟨bM, iq * 5 + 4, none⟩ = some (.slice pe el ce) := by rw [hcsM 4 (by decide), hel]; show some m'.sl = _; rw [hse]
  have hial : iq < al := by have := (List.getElem?_eq_some_iff.1 hi).1; have := HAL.out; omega
  have HC6 : Hid (∀ W, Below W6.heap.size W6 W → W.cell? ⟨XB, 0, none⟩ = some (.string kt) ∧ W.cell? ⟨XB, 1, none⟩ = some (.int .i64 kn) ∧ W.cell? ⟨XB, 2, none⟩ = some (.int .i64 (ls : Int)) ∧ W.cell? ⟨XB, 3, none⟩ = some (.int .i64 ((bs : Int) + (el : Int))) ∧ W.cell? ⟨bM, iq * 5 + 2, none⟩ = some (.int .i64 (bs : Int)) ∧ W.cell? ⟨bM, iq * 5 + 3, none⟩ = some (.int .i64 (ls : Int)) ∧ W.cell? ⟨bM, iq * 5 + 4, none⟩ = some (.slice pe el ce)) := Lib.hid fun W hW => by
    have h1 := (hW.block XB (Array.getElem?_eq_some_iff.1 hx6).1).trans hx6
    have hc := hb6.trans (hW.mono hb6.size)
    refine ⟨?_, ?_, ?_, ?_, (hc.cell (p := ⟨bM, _, none⟩) hbM).trans hb2, (hc.cell (p := ⟨bM, _, none⟩) hbM).trans hb3, (hc.cell (p := ⟨bM, _, none⟩) hbM).trans hb4⟩ <;> simp [World.cell?, h1]
  have HW6 := Lib.hid hW6
  have HXB := Lib.hid hXB
  have HB6 := Lib.hid hb6
  have HSRT := Lib.hid hy
  have hbel : bs ≤ 1099511627776 ∧ el ≤ 2 * (k + 1) := by omega
  obtain ⟨hbe1, hbe2⟩ := hbel
  clear hW6 hXB hx6 hb6 hf hat hcsM hfzM hse hap hme hb2 hb3 hb4 hlo' hbM p1 p2 p3 hfd hy hym hm hmk hi hk' hml hw1 hw2 hw3 z1 z2 z3 z4 hbs hls hel hoo hll hjl hsum
  go_upto_region 78 with fail
  rw [← HW6.out, ← HXB.out]
  obtain ⟨x0, x1, x2, x3, d2, d3, d4⟩ := HC6.out W6 (Below.refl _ _)
  go_wp2_with fail
  refine HF.out.mono ?_
  rintro e w7 ⟨rfl, yy, rfl⟩
  clear x0 x1 x2 x3 d2 d3 d4 c0 c1 c2 c3
  go_upto_region 79 with fail
  obtain ⟨W7, hW7⟩ : ∃ W, W = W6.drewN yy := ⟨_, rfl⟩
  rw [← hW7]
  have h67 : Below W6.heap.size W6 W7 := by rw [hW7]; exact below_drewN (Below.refl _ _) _
  have HCE : Hid (∀ W, Below W7.heap.size W7 W → W.cell? ⟨XB, 0, none⟩ = some (.string kt) ∧ W.cell? ⟨XB, 1, none⟩ = some (.int .i64 kn) ∧ W.cell? ⟨XB, 2, none⟩ = some (.int .i64 (ls : Int)) ∧ W.cell? ⟨XB, 3, none⟩ = some (.int .i64 ((bs : Int) + (el : Int))) ∧ W.cell? ⟨bM, iq * 5 + 2, none⟩ = some (.int .i64 (bs : Int)) ∧ W.cell? ⟨bM, iq * 5 + 3, none⟩ = some (.int .i64 (ls : Int)) ∧ W.cell? ⟨bM, iq * 5 + 4, none⟩ = some (.slice pe el ce)) := Lib.hid fun W hW => HC6.out W (h67.trans (hW.mono h67.size))
  have HLS : Hid (∀ W, Below W7.heap.size W7 W → Calls Tryz.prog 17 #[.pointer (some ⟨qb, 0, none⟩), .string kt, .int .i64 kn] W fun e w' => e = .returned (.int .i64 (ls : Int)) ∧ Below W.heap.size W w') := Lib.hid fun W hW => HLS0.out W (Chg.of_below (HB6.out.trans ((h67.trans (hW.mono h67.size)).mono HB6.out.size)))
  have HNX : Hid (∀ W, Below W7.heap.size W7 W → Calls Tryz.prog 18 #[.pointer (some ⟨qb, 0, none⟩), .string kt, .int .i64 kn] W fun e w' => e = .returned (.int .i64 ((bs : Int) + (el : Int))) ∧ Below W.heap.size W w') := Lib.hid fun W hW => HNX0.out W (Chg.of_below (HB6.out.trans ((h67.trans (hW.mono h67.size)).mono HB6.out.size)))
  have HB7 := Lib.hid (HBj.out.trans ((HB6.out.trans (h67.mono HB6.out.size)).mono HBj.out.size))
  clear hW7 h67
  refine region_inv' (n := 400) rfl rfl (by kernel_rfl) (by kernel_rfl) (fun i v _ => match i with | 0 => v = .int .i64 (iq : Int) | 1 => v = .bool false | 2 => v = .bool false | 3 => v = gv (true) (.pointer (some ⟨XB, 2, none⟩)) | 4 => v = gv (true) (.int .i64 (ls : Int)) | 5 => v = gv (true) (.slice (some ⟨bM, 0, none⟩) al ac) | 6 => v = gv (true) (.int .i64 (iq : Int)) | 7 => v = gv (true) (.pointer (some ⟨bM, iq * 5, none⟩)) | 8 => v = gv (true) (.pointer (some ⟨bM, iq * 5 + 3, none⟩)) | 9 => v = gv (true) (.int .i64 (ls : Int)) | 10 => v = gv (true) (.bool false) | 11 => v = .bool false | 12 => v = .bool false | 13 => v = gv (true) (.pointer (some ⟨XB, 3, none⟩)) | 14 => v = gv (true) (.int .i64 ((bs : Int) + (el : Int))) | 15 => v = gv (true) (.slice (some ⟨bM, 0, none⟩) al ac) | 16 => v = gv (true) (.int .i64 (iq : Int)) | 17 => v = gv (true) (.pointer (some ⟨bM, iq * 5, none⟩)) | 18 => v = gv (true) (.pointer (some ⟨bM, iq * 5 + 2, none⟩)) | 19 => v = gv (true) (.int .i64 (bs : Int)) | 20 => v = gv (true) (.slice (some ⟨bM, 0, none⟩) al ac) | 21 => v = gv (true) (.int .i64 (iq : Int)) | 22 => v = gv (true) (.pointer (some ⟨bM, iq * 5, none⟩)) | 23 => v = gv (true) (.pointer (some ⟨bM, iq * 5 + 4, none⟩)) | 24 => v = gv (true) (.slice pe el ce) | 25 => v = gv (true) (.int .i64 (el : Int)) | 26 => v = gv (true) (.int .i64 ((bs : Int) + (el : Int))) | 27 => v = gv (true) (.bool false) | 28 => v = .bool false | 29 => v = .bool false | 30 => v = gv (true) (.pointer (some ⟨qb, 0, none⟩)) | 31 => v = gv (true) (.pointer (some ⟨XB, 0, none⟩)) | 32 => v = gv (true) (.string kt) | 33 => v = gv (true) (.pointer (some ⟨XB, 1, none⟩)) | 34 => v = gv (true) (.int .i64 kn) | 35 => v = gv (true) (.int .i64 (ls : Int)) | 36 => v = gv (true) (.pointer (some ⟨XB, 2, none⟩)) | 37 => v = gv (true) (.int .i64 (ls : Int)) | 38 => v = gv (true) (.bool false) | 39 => v = .bool false | 40 => v = .bool false | 41 => v = gv (true) (.pointer (some ⟨qb, 0, none⟩)) | 42 => v = gv (true) (.pointer (some ⟨XB, 0, none⟩)) | 43 => v = gv (true) (.string kt) | 44 => v = gv (true) (.pointer (some ⟨XB, 1, none⟩)) | 45 => v = gv (true) (.int .i64 kn) | 46 => v = gv (true) (.int .i64 ((bs : Int) + (el : Int))) | 47 => v = gv (true) (.pointer (some ⟨XB, 3, none⟩)) | 48 => v = gv (true) (.int .i64 ((bs : Int) + (el : Int))) | 49 => v = gv (true) (.bool false) | 50 => v = .bool false | _ => True)
    (fun w' => Below W7.heap.size W7 w') (fun w' w2 => Below W7.heap.size w' w2) (fun w' => Below.refl _ _) (fun _ _ _ _ _ h => h) (Below.refl _ _).drew ?_ ?_
  · simp only [AllAt]
    refine ⟨?_, ?_, ?_, ?_, ?_, ?_, ?_, ?_, ?_, ?_, ?_, ?_, ?_, ?_, ?_, ?_, ?_, ?_, ?_, ?_, ?_, ?_, ?_, ?_, ?_, ?_, ?_, ?_, ?_, ?_, ?_, ?_, ?_, ?_, ?_, ?_, ?_, ?_, ?_, ?_, ?_, ?_, ?_, ?_, ?_, ?_, ?_, ?_, ?_, ?_, ?_, trivial⟩
    · refine StepAt.plain rfl ?_
      intro f w' hG hfr hp Kx hK
      have g23 : f 23 = .int .i64 (iq : Int) := hfr 23 (by kernel_rfl)
      clear hfr hp
      go_simp
      exact hK _ _ rfl hG (Below.refl _ _)
    · refine StepAt.plain rfl ?_
      intro f w' hG hfr hp Kx hK
      have g312 : f 312 = .int .i64 (iq : Int) := hp 0 _ 312 rfl rfl (by kernel_rfl)
      clear hfr hp
      have hi0 : decide ((iq : Int) < 0) = false := decide_eq_false (by omega)
      go_simp
      exact hK _ _ rfl hG (Below.refl _ _)
    · refine StepAt.plain rfl ?_
      intro f w' hG hfr hp Kx hK
      have g313 : f 313 = .bool false := hp 1 _ 313 rfl rfl (by kernel_rfl)
      clear hfr hp
      go_simp
      exact hK _ _ rfl hG (Below.refl _ _)
    · refine StepAt.guarded 2 314 false _ rfl rfl rfl (by decide) (by kernel_rfl) (true) (by intro w v h; (have h : v = .bool false := h); rw [h]; (simp [gv, undef])) (by intro h w; show undef = gv (true) _; rw [h]; rfl) ?_
      intro hc f w' hG hfr hp Kx hK
      have g22 : f 22 = .pointer (some ⟨XB, 0, none⟩) := hfr 22 (by kernel_rfl)
      clear hfr hp
      go_simp
      exact hK _ _ rfl hG (Below.refl _ _)
    · refine StepAt.guarded 2 314 false _ rfl rfl rfl (by decide) (by kernel_rfl) (true) (by intro w v h; (have h : v = .bool false := h); rw [h]; (simp [gv, undef])) (by intro h w; show undef = gv (true) _; rw [h]; rfl) ?_
      intro hc f w' hG hfr hp Kx hK
      have g315 : f 315 = gv (true) (.pointer (some ⟨XB, 2, none⟩)) := hp 3 _ 315 rfl rfl (by kernel_rfl)
      clear hfr hp
      simp only [gv_true, gv_false, Bool.not_false, Bool.not_true, Bool.and_true, Bool.true_and] at g315
      obtain ⟨x0, x1, x2, x3, d2, d3, d4⟩ := HCE.out _ hG
      go_simp
      exact hK _ _ rfl hG (Below.refl _ _)
    · refine StepAt.guarded 2 314 false _ rfl rfl rfl (by decide) (by kernel_rfl) (true) (by intro w v h; (have h : v = .bool false := h); rw [h]; (simp [gv, undef])) (by intro h w; show undef = gv (true) _; rw [h]; rfl) ?_
      intro hc f w' hG hfr hp Kx hK
      have g5 : f 5 = .slice (some ⟨bM, 0, none⟩) al ac := hfr 5 (by kernel_rfl)
      clear hfr hp
      go_simp
      exact hK _ _ rfl hG (Below.refl _ _)
    · refine StepAt.guarded 2 314 false _ rfl rfl rfl (by decide) (by kernel_rfl) (true) (by intro w v h; (have h : v = .bool false := h); rw [h]; (simp [gv, undef])) (by intro h w; show undef = gv (true) _; rw [h]; rfl) ?_
      intro hc f w' hG hfr hp Kx hK
      have g23 : f 23 = .int .i64 (iq : Int) := hfr 23 (by kernel_rfl)
      clear hfr hp
      go_simp
      exact hK _ _ rfl hG (Below.refl _ _)
    · refine StepAt.guarded 2 314 false _ rfl rfl rfl (by decide) (by kernel_rfl) (true) (by intro w v h; (have h : v = .bool false := h); rw [h]; (simp [gv, undef])) (by intro h w; show undef = gv (true) _; rw [h]; rfl) ?_
      intro hc f w' hG hfr hp Kx hK
      have g317 : f 317 = gv (true) (.slice (some ⟨bM, 0, none⟩) al ac) := hp 5 _ 317 rfl rfl (by kernel_rfl)
      have g318 : f 318 = gv (true) (.int .i64 (iq : Int)) := hp 6 _ 318 rfl rfl (by kernel_rfl)
      clear hfr hp
      simp only [gv_true, gv_false, Bool.not_false, Bool.not_true, Bool.and_true, Bool.true_and] at g317 g318
      have hil : (iq : Int) < (al : Int) := by omega
      go_simp
      exact hK _ _ rfl hG (Below.refl _ _)
    · refine StepAt.guarded 2 314 false _ rfl rfl rfl (by decide) (by kernel_rfl) (true) (by intro w v h; (have h : v = .bool false := h); rw [h]; (simp [gv, undef])) (by intro h w; show undef = gv (true) _; rw [h]; rfl) ?_
      intro hc f w' hG hfr hp Kx hK
      have g319 : f 319 = gv (true) (.pointer (some ⟨bM, iq * 5, none⟩)) := hp 7 _ 319 rfl rfl (by kernel_rfl)
      clear hfr hp
      simp only [gv_true, gv_false, Bool.not_false, Bool.not_true, Bool.and_true, Bool.true_and] at g319
      go_simp
      exact hK _ _ rfl hG (Below.refl _ _)
    · refine StepAt.guarded 2 314 false _ rfl rfl rfl (by decide) (by kernel_rfl) (true) (by intro w v h; (have h : v = .bool false := h); rw [h]; (simp [gv, undef])) (by intro h w; show undef = gv (true) _; rw [h]; rfl) ?_
      intro hc f w' hG hfr hp Kx hK
      have g320 : f 320 = gv (true) (.pointer (some ⟨bM, iq * 5 + 3, none⟩)) := hp 8 _ 320 rfl rfl (by kernel_rfl)
      clear hfr hp
      simp only [gv_true, gv_false, Bool.not_false, Bool.not_true, Bool.and_true, Bool.true_and] at g320
      obtain ⟨x0, x1, x2, x3, d2, d3, d4⟩ := HCE.out _ hG
      go_simp
      exact hK _ _ rfl hG (Below.refl _ _)
    · refine StepAt.guarded 2 314 false _ rfl rfl rfl (by decide) (by kernel_rfl) (true) (by intro w v h; (have h : v = .bool false := h); rw [h]; (simp [gv, undef])) (by intro h w; show undef = gv (true) _; rw [h]; rfl) ?_
      intro hc f w' hG hfr hp Kx hK
      have g316 : f 316 = gv (true) (.int .i64 (ls : Int)) := hp 4 _ 316 rfl rfl (by kernel_rfl)
      have g321 : f 321 = gv (true) (.int .i64 (ls : Int)) := hp 9 _ 321 rfl rfl (by kernel_rfl)
      clear hfr hp
      simp only [gv_true, gv_false, Bool.not_false, Bool.not_true, Bool.and_true, Bool.true_and] at g316 g321
      go_simp
      exact hK _ _ rfl hG (Below.refl _ _)
    · refine StepAt.plain rfl ?_
      intro f w' hG hfr hp Kx hK
      have g314 : f 314 = .bool false := hp 2 _ 314 rfl rfl (by kernel_rfl)
      have g322 : f 322 = gv (true) (.bool false) := hp 10 _ 322 rfl rfl (by kernel_rfl)
      clear hfr hp
      simp only [gv_true, gv_false] at g322
      go_simp
      exact hK _ _ rfl hG (Below.refl _ _)
    · refine StepAt.plain rfl ?_
      intro f w' hG hfr hp Kx hK
      have g323 : f 323 = .bool false := hp 11 _ 323 rfl rfl (by kernel_rfl)
      clear hfr hp
      go_simp
      exact hK _ _ rfl hG (Below.refl _ _)
    · refine StepAt.guarded 12 324 false _ rfl rfl rfl (by decide) (by kernel_rfl) (true) (by intro w v h; (have h : v = .bool false := h); rw [h]; (simp [gv, undef])) (by intro h w; show undef = gv (true) _; rw [h]; rfl) ?_
      intro hc f w' hG hfr hp Kx hK
      have g22 : f 22 = .pointer (some ⟨XB, 0, none⟩) := hfr 22 (by kernel_rfl)
      clear hfr hp
      go_simp
      exact hK _ _ rfl hG (Below.refl _ _)
    · refine StepAt.guarded 12 324 false _ rfl rfl rfl (by decide) (by kernel_rfl) (true) (by intro w v h; (have h : v = .bool false := h); rw [h]; (simp [gv, undef])) (by intro h w; show undef = gv (true) _; rw [h]; rfl) ?_
      intro hc f w' hG hfr hp Kx hK
      have g325 : f 325 = gv (true) (.pointer (some ⟨XB, 3, none⟩)) := hp 13 _ 325 rfl rfl (by kernel_rfl)
      clear hfr hp
      simp only [gv_true, gv_false, Bool.not_false, Bool.not_true, Bool.and_true, Bool.true_and] at g325
      obtain ⟨x0, x1, x2, x3, d2, d3, d4⟩ := HCE.out _ hG
      go_simp
      exact hK _ _ rfl hG (Below.refl _ _)
    · refine StepAt.guarded 12 324 false _ rfl rfl rfl (by decide) (by kernel_rfl) (true) (by intro w v h; (have h : v = .bool false := h); rw [h]; (simp [gv, undef])) (by intro h w; show undef = gv (true) _; rw [h]; rfl) ?_
      intro hc f w' hG hfr hp Kx hK
      have g5 : f 5 = .slice (some ⟨bM, 0, none⟩) al ac := hfr 5 (by kernel_rfl)
      clear hfr hp
      go_simp
      exact hK _ _ rfl hG (Below.refl _ _)
    · refine StepAt.guarded 12 324 false _ rfl rfl rfl (by decide) (by kernel_rfl) (true) (by intro w v h; (have h : v = .bool false := h); rw [h]; (simp [gv, undef])) (by intro h w; show undef = gv (true) _; rw [h]; rfl) ?_
      intro hc f w' hG hfr hp Kx hK
      have g23 : f 23 = .int .i64 (iq : Int) := hfr 23 (by kernel_rfl)
      clear hfr hp
      go_simp
      exact hK _ _ rfl hG (Below.refl _ _)
    · refine StepAt.guarded 12 324 false _ rfl rfl rfl (by decide) (by kernel_rfl) (true) (by intro w v h; (have h : v = .bool false := h); rw [h]; (simp [gv, undef])) (by intro h w; show undef = gv (true) _; rw [h]; rfl) ?_
      intro hc f w' hG hfr hp Kx hK
      have g327 : f 327 = gv (true) (.slice (some ⟨bM, 0, none⟩) al ac) := hp 15 _ 327 rfl rfl (by kernel_rfl)
      have g328 : f 328 = gv (true) (.int .i64 (iq : Int)) := hp 16 _ 328 rfl rfl (by kernel_rfl)
      clear hfr hp
      simp only [gv_true, gv_false, Bool.not_false, Bool.not_true, Bool.and_true, Bool.true_and] at g327 g328
      have hil : (iq : Int) < (al : Int) := by omega
      go_simp
      exact hK _ _ rfl hG (Below.refl _ _)
    · refine StepAt.guarded 12 324 false _ rfl rfl rfl (by decide) (by kernel_rfl) (true) (by intro w v h; (have h : v = .bool false := h); rw [h]; (simp [gv, undef])) (by intro h w; show undef = gv (true) _; rw [h]; rfl) ?_
      intro hc f w' hG hfr hp Kx hK
      have g329 : f 329 = gv (true) (.pointer (some ⟨bM, iq * 5, none⟩)) := hp 17 _ 329 rfl rfl (by kernel_rfl)
      clear hfr hp
      simp only [gv_true, gv_false, Bool.not_false, Bool.not_true, Bool.and_true, Bool.true_and] at g329
      go_simp
      exact hK _ _ rfl hG (Below.refl _ _)
    · refine StepAt.guarded 12 324 false _ rfl rfl rfl (by decide) (by kernel_rfl) (true) (by intro w v h; (have h : v = .bool false := h); rw [h]; (simp [gv, undef])) (by intro h w; show undef = gv (true) _; rw [h]; rfl) ?_
      intro hc f w' hG hfr hp Kx hK
      have g330 : f 330 = gv (true) (.pointer (some ⟨bM, iq * 5 + 2, none⟩)) := hp 18 _ 330 rfl rfl (by kernel_rfl)
      clear hfr hp
      simp only [gv_true, gv_false, Bool.not_false, Bool.not_true, Bool.and_true, Bool.true_and] at g330
      obtain ⟨x0, x1, x2, x3, d2, d3, d4⟩ := HCE.out _ hG
      go_simp
      exact hK _ _ rfl hG (Below.refl _ _)
    · refine StepAt.guarded 12 324 false _ rfl rfl rfl (by decide) (by kernel_rfl) (true) (by intro w v h; (have h : v = .bool false := h); rw [h]; (simp [gv, undef])) (by intro h w; show undef = gv (true) _; rw [h]; rfl) ?_
      intro hc f w' hG hfr hp Kx hK
      have g5 : f 5 = .slice (some ⟨bM, 0, none⟩) al ac := hfr 5 (by kernel_rfl)
      clear hfr hp
      go_simp
      exact hK _ _ rfl hG (Below.refl _ _)
    · refine StepAt.guarded 12 324 false _ rfl rfl rfl (by decide) (by kernel_rfl) (true) (by intro w v h; (have h : v = .bool false := h); rw [h]; (simp [gv, undef])) (by intro h w; show undef = gv (true) _; rw [h]; rfl) ?_
      intro hc f w' hG hfr hp Kx hK
      have g23 : f 23 = .int .i64 (iq : Int) := hfr 23 (by kernel_rfl)
      clear hfr hp
      go_simp
      exact hK _ _ rfl hG (Below.refl _ _)
    · refine StepAt.guarded 12 324 false _ rfl rfl rfl (by decide) (by kernel_rfl) (true) (by intro w v h; (have h : v = .bool false := h); rw [h]; (simp [gv, undef])) (by intro h w; show undef = gv (true) _; rw [h]; rfl) ?_
      intro hc f w' hG hfr hp Kx hK
      have g332 : f 332 = gv (true) (.slice (some ⟨bM, 0, none⟩) al ac) := hp 20 _ 332 rfl rfl (by kernel_rfl)
      have g333 : f 333 = gv (true) (.int .i64 (iq : Int)) := hp 21 _ 333 rfl rfl (by kernel_rfl)
      clear hfr hp
      simp only [gv_true, gv_false, Bool.not_false, Bool.not_true, Bool.and_true, Bool.true_and] at g332 g333
      have hil : (iq : Int) < (al : Int) := by omega
      go_simp
      exact hK _ _ rfl hG (Below.refl _ _)
    · refine StepAt.guarded 12 324 false _ rfl rfl rfl (by decide) (by kernel_rfl) (true) (by intro w v h; (have h : v = .bool false := h); rw [h]; (simp [gv, undef])) (by intro h w; show undef = gv (true) _; rw [h]; rfl) ?_
      intro hc f w' hG hfr hp Kx hK
      have g334 : f 334 = gv (true) (.pointer (some ⟨bM, iq * 5, none⟩)) := hp 22 _ 334 rfl rfl (by kernel_rfl)
      clear hfr hp
      simp only [gv_true, gv_false, Bool.not_false, Bool.not_true, Bool.and_true, Bool.true_and] at g334
      go_simp
      exact hK _ _ rfl hG (Below.refl _ _)
    · refine StepAt.guarded 12 324 false _ rfl rfl rfl (by decide) (by kernel_rfl) (true) (by intro w v h; (have h : v = .bool false := h); rw [h]; (simp [gv, undef])) (by intro h w; show undef = gv (true) _; rw [h]; rfl) ?_
      intro hc f w' hG hfr hp Kx hK
      have g335 : f 335 = gv (true) (.pointer (some ⟨bM, iq * 5 + 4, none⟩)) := hp 23 _ 335 rfl rfl (by kernel_rfl)
      clear hfr hp
      simp only [gv_true, gv_false, Bool.not_false, Bool.not_true, Bool.and_true, Bool.true_and] at g335
      obtain ⟨x0, x1, x2, x3, d2, d3, d4⟩ := HCE.out _ hG
      go_simp
      exact hK _ _ rfl hG (Below.refl _ _)
    · refine StepAt.guarded 12 324 false _ rfl rfl rfl (by decide) (by kernel_rfl) (true) (by intro w v h; (have h : v = .bool false := h); rw [h]; (simp [gv, undef])) (by intro h w; show undef = gv (true) _; rw [h]; rfl) ?_
      intro hc f w' hG hfr hp Kx hK
      have g336 : f 336 = gv (true) (.slice pe el ce) := hp 24 _ 336 rfl rfl (by kernel_rfl)
      clear hfr hp
      simp only [gv_true, gv_false, Bool.not_false, Bool.not_true, Bool.and_true, Bool.true_and] at g336
      go_simp
      exact hK _ _ rfl hG (Below.refl _ _)
    · refine StepAt.guarded 12 324 false _ rfl rfl rfl (by decide) (by kernel_rfl) (true) (by intro w v h; (have h : v = .bool false := h); rw [h]; (simp [gv, undef])) (by intro h w; show undef = gv (true) _; rw [h]; rfl) ?_
      intro hc f w' hG hfr hp Kx hK
      have g331 : f 331 = gv (true) (.int .i64 (bs : Int)) := hp 19 _ 331 rfl rfl (by kernel_rfl)
      have g337 : f 337 = gv (true) (.int .i64 (el : Int)) := hp 25 _ 337 rfl rfl (by kernel_rfl)
      clear hfr hp
      simp only [gv_true, gv_false, Bool.not_false, Bool.not_true, Bool.and_true, Bool.true_and] at g331 g337
      have hwr : IntKind.i64.wrap ((bs : Int) + (el : Int)) = (bs : Int) + (el : Int) := IntWalk.i64_in _ (by omega)
      go_simp
      exact hK _ _ rfl hG (Below.refl _ _)
    · refine StepAt.guarded 12 324 false _ rfl rfl rfl (by decide) (by kernel_rfl) (true) (by intro w v h; (have h : v = .bool false := h); rw [h]; (simp [gv, undef])) (by intro h w; show undef = gv (true) _; rw [h]; rfl) ?_
      intro hc f w' hG hfr hp Kx hK
      have g326 : f 326 = gv (true) (.int .i64 ((bs : Int) + (el : Int))) := hp 14 _ 326 rfl rfl (by kernel_rfl)
      have g338 : f 338 = gv (true) (.int .i64 ((bs : Int) + (el : Int))) := hp 26 _ 338 rfl rfl (by kernel_rfl)
      clear hfr hp
      simp only [gv_true, gv_false, Bool.not_false, Bool.not_true, Bool.and_true, Bool.true_and] at g326 g338
      go_simp
      exact hK _ _ rfl hG (Below.refl _ _)
    · refine StepAt.plain rfl ?_
      intro f w' hG hfr hp Kx hK
      have g324 : f 324 = .bool false := hp 12 _ 324 rfl rfl (by kernel_rfl)
      have g339 : f 339 = gv (true) (.bool false) := hp 27 _ 339 rfl rfl (by kernel_rfl)
      clear hfr hp
      simp only [gv_true, gv_false] at g339
      go_simp
      exact hK _ _ rfl hG (Below.refl _ _)
    · refine StepAt.plain rfl ?_
      intro f w' hG hfr hp Kx hK
      have g340 : f 340 = .bool false := hp 28 _ 340 rfl rfl (by kernel_rfl)
      clear hfr hp
      go_simp
      exact hK _ _ rfl hG (Below.refl _ _)
    · refine StepAt.guarded 29 341 false _ rfl rfl rfl (by decide) (by kernel_rfl) (true) (by intro w v h; (have h : v = .bool false := h); rw [h]; (simp [gv, undef])) (by intro h w; show undef = gv (true) _; rw [h]; rfl) ?_
      intro hc f w' hG hfr hp Kx hK
      have g3 : f 3 = .pointer (some ⟨qb, 0, none⟩) := hfr 3 (by kernel_rfl)
      clear hfr hp
      go_simp
      exact hK _ _ rfl hG (Below.refl _ _)
    · refine StepAt.guarded 29 341 false _ rfl rfl rfl (by decide) (by kernel_rfl) (true) (by intro w v h; (have h : v = .bool false := h); rw [h]; (simp [gv, undef])) (by intro h w; show undef = gv (true) _; rw [h]; rfl) ?_
      intro hc f w' hG hfr hp Kx hK
      have g22 : f 22 = .pointer (some ⟨XB, 0, none⟩) := hfr 22 (by kernel_rfl)
      clear hfr hp
      go_simp
      exact hK _ _ rfl hG (Below.refl _ _)
    · refine StepAt.guarded 29 341 false _ rfl rfl rfl (by decide) (by kernel_rfl) (true) (by intro w v h; (have h : v = .bool false := h); rw [h]; (simp [gv, undef])) (by intro h w; show undef = gv (true) _; rw [h]; rfl) ?_
      intro hc f w' hG hfr hp Kx hK
      have g343 : f 343 = gv (true) (.pointer (some ⟨XB, 0, none⟩)) := hp 31 _ 343 rfl rfl (by kernel_rfl)
      clear hfr hp
      simp only [gv_true, gv_false, Bool.not_false, Bool.not_true, Bool.and_true, Bool.true_and] at g343
      obtain ⟨x0, x1, x2, x3, d2, d3, d4⟩ := HCE.out _ hG
      go_simp
      exact hK _ _ rfl hG (Below.refl _ _)
    · refine StepAt.guarded 29 341 false _ rfl rfl rfl (by decide) (by kernel_rfl) (true) (by intro w v h; (have h : v = .bool false := h); rw [h]; (simp [gv, undef])) (by intro h w; show undef = gv (true) _; rw [h]; rfl) ?_
      intro hc f w' hG hfr hp Kx hK
      have g22 : f 22 = .pointer (some ⟨XB, 0, none⟩) := hfr 22 (by kernel_rfl)
      clear hfr hp
      go_simp
      exact hK _ _ rfl hG (Below.refl _ _)
    · refine StepAt.guarded 29 341 false _ rfl rfl rfl (by decide) (by kernel_rfl) (true) (by intro w v h; (have h : v = .bool false := h); rw [h]; (simp [gv, undef])) (by intro h w; show undef = gv (true) _; rw [h]; rfl) ?_
      intro hc f w' hG hfr hp Kx hK
      have g345 : f 345 = gv (true) (.pointer (some ⟨XB, 1, none⟩)) := hp 33 _ 345 rfl rfl (by kernel_rfl)
      clear hfr hp
      simp only [gv_true, gv_false, Bool.not_false, Bool.not_true, Bool.and_true, Bool.true_and] at g345
      obtain ⟨x0, x1, x2, x3, d2, d3, d4⟩ := HCE.out _ hG
      go_simp
      exact hK _ _ rfl hG (Below.refl _ _)
    · refine StepAt.guarded 29 341 false _ rfl rfl rfl (by decide) (by kernel_rfl) (true) (by intro w v h; (have h : v = .bool false := h); rw [h]; (simp [gv, undef])) (by intro h w; show undef = gv (true) _; rw [h]; rfl) ?_
      intro hc f w' hG hfr hp Kx hK
      have g342 : f 342 = gv (true) (.pointer (some ⟨qb, 0, none⟩)) := hp 30 _ 342 rfl rfl (by kernel_rfl)
      have g344 : f 344 = gv (true) (.string kt) := hp 32 _ 344 rfl rfl (by kernel_rfl)
      have g346 : f 346 = gv (true) (.int .i64 kn) := hp 34 _ 346 rfl rfl (by kernel_rfl)
      clear hfr hp
      simp only [gv_true, gv_false, Bool.not_false, Bool.not_true, Bool.and_true, Bool.true_and] at g342 g344 g346
      go_simp
      refine (HLS.out _ hG).mono ?_
      rintro e w2 ⟨rfl, hb⟩
      exact hK _ _ rfl (Below.trans hG (Below.mono hb hG.size)) (Below.mono hb hG.size)
    · refine StepAt.guarded 29 341 false _ rfl rfl rfl (by decide) (by kernel_rfl) (true) (by intro w v h; (have h : v = .bool false := h); rw [h]; (simp [gv, undef])) (by intro h w; show undef = gv (true) _; rw [h]; rfl) ?_
      intro hc f w' hG hfr hp Kx hK
      have g22 : f 22 = .pointer (some ⟨XB, 0, none⟩) := hfr 22 (by kernel_rfl)
      clear hfr hp
      go_simp
      exact hK _ _ rfl hG (Below.refl _ _)
    · refine StepAt.guarded 29 341 false _ rfl rfl rfl (by decide) (by kernel_rfl) (true) (by intro w v h; (have h : v = .bool false := h); rw [h]; (simp [gv, undef])) (by intro h w; show undef = gv (true) _; rw [h]; rfl) ?_
      intro hc f w' hG hfr hp Kx hK
      have g348 : f 348 = gv (true) (.pointer (some ⟨XB, 2, none⟩)) := hp 36 _ 348 rfl rfl (by kernel_rfl)
      clear hfr hp
      simp only [gv_true, gv_false, Bool.not_false, Bool.not_true, Bool.and_true, Bool.true_and] at g348
      obtain ⟨x0, x1, x2, x3, d2, d3, d4⟩ := HCE.out _ hG
      go_simp
      exact hK _ _ rfl hG (Below.refl _ _)
    · refine StepAt.guarded 29 341 false _ rfl rfl rfl (by decide) (by kernel_rfl) (true) (by intro w v h; (have h : v = .bool false := h); rw [h]; (simp [gv, undef])) (by intro h w; show undef = gv (true) _; rw [h]; rfl) ?_
      intro hc f w' hG hfr hp Kx hK
      have g347 : f 347 = gv (true) (.int .i64 (ls : Int)) := hp 35 _ 347 rfl rfl (by kernel_rfl)
      have g349 : f 349 = gv (true) (.int .i64 (ls : Int)) := hp 37 _ 349 rfl rfl (by kernel_rfl)
      clear hfr hp
      simp only [gv_true, gv_false, Bool.not_false, Bool.not_true, Bool.and_true, Bool.true_and] at g347 g349
      go_simp
      exact hK _ _ rfl hG (Below.refl _ _)
    · refine StepAt.plain rfl ?_
      intro f w' hG hfr hp Kx hK
      have g341 : f 341 = .bool false := hp 29 _ 341 rfl rfl (by kernel_rfl)
      have g350 : f 350 = gv (true) (.bool false) := hp 38 _ 350 rfl rfl (by kernel_rfl)
      clear hfr hp
      simp only [gv_true, gv_false] at g350
      go_simp
      exact hK _ _ rfl hG (Below.refl _ _)
    · refine StepAt.plain rfl ?_
      intro f w' hG hfr hp Kx hK
      have g351 : f 351 = .bool false := hp 39 _ 351 rfl rfl (by kernel_rfl)
      clear hfr hp
      go_simp
      exact hK _ _ rfl hG (Below.refl _ _)
    · refine StepAt.guarded 40 352 false _ rfl rfl rfl (by decide) (by kernel_rfl) (true) (by intro w v h; (have h : v = .bool false := h); rw [h]; (simp [gv, undef])) (by intro h w; show undef = gv (true) _; rw [h]; rfl) ?_
      intro hc f w' hG hfr hp Kx hK
      have g3 : f 3 = .pointer (some ⟨qb, 0, none⟩) := hfr 3 (by kernel_rfl)
      clear hfr hp
      go_simp
      exact hK _ _ rfl hG (Below.refl _ _)
    · refine StepAt.guarded 40 352 false _ rfl rfl rfl (by decide) (by kernel_rfl) (true) (by intro w v h; (have h : v = .bool false := h); rw [h]; (simp [gv, undef])) (by intro h w; show undef = gv (true) _; rw [h]; rfl) ?_
      intro hc f w' hG hfr hp Kx hK
      have g22 : f 22 = .pointer (some ⟨XB, 0, none⟩) := hfr 22 (by kernel_rfl)
      clear hfr hp
      go_simp
      exact hK _ _ rfl hG (Below.refl _ _)
    · refine StepAt.guarded 40 352 false _ rfl rfl rfl (by decide) (by kernel_rfl) (true) (by intro w v h; (have h : v = .bool false := h); rw [h]; (simp [gv, undef])) (by intro h w; show undef = gv (true) _; rw [h]; rfl) ?_
      intro hc f w' hG hfr hp Kx hK
      have g354 : f 354 = gv (true) (.pointer (some ⟨XB, 0, none⟩)) := hp 42 _ 354 rfl rfl (by kernel_rfl)
      clear hfr hp
      simp only [gv_true, gv_false, Bool.not_false, Bool.not_true, Bool.and_true, Bool.true_and] at g354
      obtain ⟨x0, x1, x2, x3, d2, d3, d4⟩ := HCE.out _ hG
      go_simp
      exact hK _ _ rfl hG (Below.refl _ _)
    · refine StepAt.guarded 40 352 false _ rfl rfl rfl (by decide) (by kernel_rfl) (true) (by intro w v h; (have h : v = .bool false := h); rw [h]; (simp [gv, undef])) (by intro h w; show undef = gv (true) _; rw [h]; rfl) ?_
      intro hc f w' hG hfr hp Kx hK
      have g22 : f 22 = .pointer (some ⟨XB, 0, none⟩) := hfr 22 (by kernel_rfl)
      clear hfr hp
      go_simp
      exact hK _ _ rfl hG (Below.refl _ _)
    · refine StepAt.guarded 40 352 false _ rfl rfl rfl (by decide) (by kernel_rfl) (true) (by intro w v h; (have h : v = .bool false := h); rw [h]; (simp [gv, undef])) (by intro h w; show undef = gv (true) _; rw [h]; rfl) ?_
      intro hc f w' hG hfr hp Kx hK
      have g356 : f 356 = gv (true) (.pointer (some ⟨XB, 1, none⟩)) := hp 44 _ 356 rfl rfl (by kernel_rfl)
      clear hfr hp
      simp only [gv_true, gv_false, Bool.not_false, Bool.not_true, Bool.and_true, Bool.true_and] at g356
      obtain ⟨x0, x1, x2, x3, d2, d3, d4⟩ := HCE.out _ hG
      go_simp
      exact hK _ _ rfl hG (Below.refl _ _)
    · refine StepAt.guarded 40 352 false _ rfl rfl rfl (by decide) (by kernel_rfl) (true) (by intro w v h; (have h : v = .bool false := h); rw [h]; (simp [gv, undef])) (by intro h w; show undef = gv (true) _; rw [h]; rfl) ?_
      intro hc f w' hG hfr hp Kx hK
      have g353 : f 353 = gv (true) (.pointer (some ⟨qb, 0, none⟩)) := hp 41 _ 353 rfl rfl (by kernel_rfl)
      have g355 : f 355 = gv (true) (.string kt) := hp 43 _ 355 rfl rfl (by kernel_rfl)
      have g357 : f 357 = gv (true) (.int .i64 kn) := hp 45 _ 357 rfl rfl (by kernel_rfl)
      clear hfr hp
      simp only [gv_true, gv_false, Bool.not_false, Bool.not_true, Bool.and_true, Bool.true_and] at g353 g355 g357
      go_simp
      refine (HNX.out _ hG).mono ?_
      rintro e w2 ⟨rfl, hb⟩
      exact hK _ _ rfl (Below.trans hG (Below.mono hb hG.size)) (Below.mono hb hG.size)
    · refine StepAt.guarded 40 352 false _ rfl rfl rfl (by decide) (by kernel_rfl) (true) (by intro w v h; (have h : v = .bool false := h); rw [h]; (simp [gv, undef])) (by intro h w; show undef = gv (true) _; rw [h]; rfl) ?_
      intro hc f w' hG hfr hp Kx hK
      have g22 : f 22 = .pointer (some ⟨XB, 0, none⟩) := hfr 22 (by kernel_rfl)
      clear hfr hp
      go_simp
      exact hK _ _ rfl hG (Below.refl _ _)
    · refine StepAt.guarded 40 352 false _ rfl rfl rfl (by decide) (by kernel_rfl) (true) (by intro w v h; (have h : v = .bool false := h); rw [h]; (simp [gv, undef])) (by intro h w; show undef = gv (true) _; rw [h]; rfl) ?_
      intro hc f w' hG hfr hp Kx hK
      have g359 : f 359 = gv (true) (.pointer (some ⟨XB, 3, none⟩)) := hp 47 _ 359 rfl rfl (by kernel_rfl)
      clear hfr hp
      simp only [gv_true, gv_false, Bool.not_false, Bool.not_true, Bool.and_true, Bool.true_and] at g359
      obtain ⟨x0, x1, x2, x3, d2, d3, d4⟩ := HCE.out _ hG
      go_simp
      exact hK _ _ rfl hG (Below.refl _ _)
    · refine StepAt.guarded 40 352 false _ rfl rfl rfl (by decide) (by kernel_rfl) (true) (by intro w v h; (have h : v = .bool false := h); rw [h]; (simp [gv, undef])) (by intro h w; show undef = gv (true) _; rw [h]; rfl) ?_
      intro hc f w' hG hfr hp Kx hK
      have g358 : f 358 = gv (true) (.int .i64 ((bs : Int) + (el : Int))) := hp 46 _ 358 rfl rfl (by kernel_rfl)
      have g360 : f 360 = gv (true) (.int .i64 ((bs : Int) + (el : Int))) := hp 48 _ 360 rfl rfl (by kernel_rfl)
      clear hfr hp
      simp only [gv_true, gv_false, Bool.not_false, Bool.not_true, Bool.and_true, Bool.true_and] at g358 g360
      go_simp
      exact hK _ _ rfl hG (Below.refl _ _)
    · refine StepAt.plain rfl ?_
      intro f w' hG hfr hp Kx hK
      have g352 : f 352 = .bool false := hp 40 _ 352 rfl rfl (by kernel_rfl)
      have g361 : f 361 = gv (true) (.bool false) := hp 49 _ 361 rfl rfl (by kernel_rfl)
      clear hfr hp
      simp only [gv_true, gv_false] at g361
      go_simp
      exact hK _ _ rfl hG (Below.refl _ _)
  · intro fz wz hG hfr hR
    have g362 : fz 362 = .bool false := hR 50 _ 362 rfl rfl
    have q0 := hfr 0 (by kernel_rfl)
    have q3 := hfr 3 (by kernel_rfl)
    have q5 := hfr 5 (by kernel_rfl)
    have q20 := hfr 20 (by kernel_rfl)
    have q21 := hfr 21 (by kernel_rfl)
    have q22 := hfr 22 (by kernel_rfl)
    have q36 := hfr 36 (by kernel_rfl)
    have q37 := hfr 37 (by kernel_rfl)
    have q38 := hfr 38 (by kernel_rfl)
    have q299 := hfr 299 (by kernel_rfl)
    have q300 := hfr 300 (by kernel_rfl)
    have q301 := hfr 301 (by kernel_rfl)
    have HG9 := Lib.hid hG
    clear hfr hR hG
    change fz 362 = _ at g362
    rw [fr_lit400 fz, q0, q3, q5, q20, q21, q22, q36, q37, q38, q299, q300, q301, g362]
    have HB8 := Lib.hid (HB7.out.trans (HG9.out.mono HB7.out.size))
    have HCX : Hid (∀ W, Below wz.heap.size wz W → W.cell? ⟨XB, 0, none⟩ = some (.string kt) ∧ W.cell? ⟨XB, 1, none⟩ = some (.int .i64 kn)) := Lib.hid fun W hW => by
      obtain ⟨x0, x1, _⟩ := HCE.out W (HG9.out.trans (hW.mono HG9.out.size))
      exact ⟨x0, x1⟩
    go_upto_region 81 with fail
    obtain ⟨W8, hW8⟩ : ∃ W, W = wz := ⟨_, rfl⟩
    rw [← hW8] at HB8 HCX ⊢
    clear hW8
    rcases Nat.eq_zero_or_pos j with hz | hz
    · subst hz
      refine region_inv' (n := 400) rfl rfl (by kernel_rfl) (by kernel_rfl) (fun i v _ => match i with | 0 => v = .int .i64 ((0 : Nat) : Int) | 1 => v = .bool false | 2 => v = .bool false | 3 => v = gv (false) (.bool false) | 4 => v = gv (false) (.bool false) | 5 => v = gv (false) (.bool false) | 6 => v = gv (false) (.bool false) | 7 => v = gv (false) (.bool false) | 8 => v = gv (false) (.bool false) | 9 => v = gv (false) (.bool false) | 10 => v = gv (false) (.bool false) | 11 => v = gv (false) (.bool false) | 12 => v = gv (false) (.bool false) | 13 => v = gv (false) (.bool false) | 14 => v = gv (false) (.bool false) | 15 => v = gv (false) (.bool false) | 16 => v = gv (false) (.bool false) | 17 => v = gv (false) (.bool false) | 18 => v = gv (false) (.bool false) | 19 => v = gv (false) (.bool false) | 20 => v = gv (false) (.bool false) | 21 => v = gv (false) (.bool false) | 22 => v = gv (false) (.bool false) | 23 => v = gv (false) (.bool false) | 24 => v = gv (false) (.bool false) | 25 => v = gv (false) (.bool false) | 26 => v = gv (false) (.bool false) | 27 => v = gv (false) (.bool false) | 28 => v = gv (false) (.bool false) | 29 => v = gv (false) (.bool false) | 30 => v = gv (false) (.bool false) | 31 => v = gv (false) (.bool false) | 32 => v = gv (false) (.bool false) | 33 => v = gv (false) (.bool false) | 34 => v = .bool false | _ => True)
        (fun w' => Below W8.heap.size W8 w') (fun w' w2 => Below W8.heap.size w' w2) (fun w' => Below.refl _ _) (fun _ _ _ _ _ h => h) (Below.refl _ _).drew ?_ ?_
      · simp only [AllAt]
        refine ⟨?_, ?_, ?_, ?_, ?_, ?_, ?_, ?_, ?_, ?_, ?_, ?_, ?_, ?_, ?_, ?_, ?_, ?_, ?_, ?_, ?_, ?_, ?_, ?_, ?_, ?_, ?_, ?_, ?_, ?_, ?_, ?_, ?_, ?_, ?_, trivial⟩
        · refine StepAt.plain rfl ?_
          intro f w' hG hfr hp Kx hK
          have g21 : f 21 = .int .i64 ((0 : Nat) : Int) := hfr 21 (by kernel_rfl)
          clear hfr hp
          go_simp
          exact hK _ _ rfl hG (Below.refl _ _)
        · refine StepAt.plain rfl ?_
          intro f w' hG hfr hp Kx hK
          have g363 : f 363 = .int .i64 ((0 : Nat) : Int) := hp 0 _ 363 rfl rfl (by kernel_rfl)
          clear hfr hp
          have hj0 : decide ((0 : Int) < ((0 : Nat) : Int)) = false := rfl
          go_simp
          exact hK _ _ rfl hG (Below.refl _ _)
        · refine StepAt.plain rfl ?_
          intro f w' hG hfr hp Kx hK
          have g364 : f 364 = .bool false := hp 1 _ 364 rfl rfl (by kernel_rfl)
          clear hfr hp
          go_simp
          exact hK _ _ rfl hG (Below.refl _ _)
        · refine StepAt.guarded 2 365 true _ rfl rfl rfl (by decide) (by kernel_rfl) (false) (by intro w v h; (have h : v = .bool false := h); rw [h]; (simp [gv, undef])) (by intro h w; show undef = gv (false) _; rw [h]; rfl) ?_
          intro hc
          cases hc
        · refine StepAt.guarded 2 365 true _ rfl rfl rfl (by decide) (by kernel_rfl) (false) (by intro w v h; (have h : v = .bool false := h); rw [h]; (simp [gv, undef])) (by intro h w; show undef = gv (false) _; rw [h]; rfl) ?_
          intro hc
          cases hc
        · refine StepAt.guarded 2 365 true _ rfl rfl rfl (by decide) (by kernel_rfl) (false) (by intro w v h; (have h : v = .bool false := h); rw [h]; (simp [gv, undef])) (by intro h w; show undef = gv (false) _; rw [h]; rfl) ?_
          intro hc
          cases hc
        · refine StepAt.guarded 2 365 true _ rfl rfl rfl (by decide) (by kernel_rfl) (false) (by intro w v h; (have h : v = .bool false := h); rw [h]; (simp [gv, undef])) (by intro h w; show undef = gv (false) _; rw [h]; rfl) ?_
          intro hc
          cases hc
        · refine StepAt.guarded 2 365 true _ rfl rfl rfl (by decide) (by kernel_rfl) (false) (by intro w v h; (have h : v = .bool false := h); rw [h]; (simp [gv, undef])) (by intro h w; show undef = gv (false) _; rw [h]; rfl) ?_
          intro hc
          cases hc
        · refine StepAt.guarded 2 365 true _ rfl rfl rfl (by decide) (by kernel_rfl) (false) (by intro w v h; (have h : v = .bool false := h); rw [h]; (simp [gv, undef])) (by intro h w; show undef = gv (false) _; rw [h]; rfl) ?_
          intro hc
          cases hc
        · refine StepAt.guarded 2 365 true _ rfl rfl rfl (by decide) (by kernel_rfl) (false) (by intro w v h; (have h : v = .bool false := h); rw [h]; (simp [gv, undef])) (by intro h w; show undef = gv (false) _; rw [h]; rfl) ?_
          intro hc
          cases hc
        · refine StepAt.guarded 2 365 true _ rfl rfl rfl (by decide) (by kernel_rfl) (false) (by intro w v h; (have h : v = .bool false := h); rw [h]; (simp [gv, undef])) (by intro h w; show undef = gv (false) _; rw [h]; rfl) ?_
          intro hc
          cases hc
        · refine StepAt.guarded 2 365 true _ rfl rfl rfl (by decide) (by kernel_rfl) (false) (by intro w v h; (have h : v = .bool false := h); rw [h]; (simp [gv, undef])) (by intro h w; show undef = gv (false) _; rw [h]; rfl) ?_
          intro hc
          cases hc
        · refine StepAt.guarded 2 365 true _ rfl rfl rfl (by decide) (by kernel_rfl) (false) (by intro w v h; (have h : v = .bool false := h); rw [h]; (simp [gv, undef])) (by intro h w; show undef = gv (false) _; rw [h]; rfl) ?_
          intro hc
          cases hc
        · refine StepAt.guarded 12 375 false _ rfl rfl rfl (by decide) (by kernel_rfl) (false) (by intro w v h; (have h : v = gv (false) (.bool false) := h); rw [h]; (simp [gv, undef])) (by intro h w; show undef = gv (false) _; rw [h]; rfl) ?_
          intro hc
          cases hc
        · refine StepAt.guarded 12 375 false _ rfl rfl rfl (by decide) (by kernel_rfl) (false) (by intro w v h; (have h : v = gv (false) (.bool false) := h); rw [h]; (simp [gv, undef])) (by intro h w; show undef = gv (false) _; rw [h]; rfl) ?_
          intro hc
          cases hc
        · refine StepAt.guarded 12 375 false _ rfl rfl rfl (by decide) (by kernel_rfl) (false) (by intro w v h; (have h : v = gv (false) (.bool false) := h); rw [h]; (simp [gv, undef])) (by intro h w; show undef = gv (false) _; rw [h]; rfl) ?_
          intro hc
          cases hc
        · refine StepAt.guarded 12 375 false _ rfl rfl rfl (by decide) (by kernel_rfl) (false) (by intro w v h; (have h : v = gv (false) (.bool false) := h); rw [h]; (simp [gv, undef])) (by intro h w; show undef = gv (false) _; rw [h]; rfl) ?_
          intro hc
          cases hc
        · refine StepAt.guarded 12 375 false _ rfl rfl rfl (by decide) (by kernel_rfl) (false) (by intro w v h; (have h : v = gv (false) (.bool false) := h); rw [h]; (simp [gv, undef])) (by intro h w; show undef = gv (false) _; rw [h]; rfl) ?_
          intro hc
          cases hc
        · refine StepAt.guarded 12 375 false _ rfl rfl rfl (by decide) (by kernel_rfl) (false) (by intro w v h; (have h : v = gv (false) (.bool false) := h); rw [h]; (simp [gv, undef])) (by intro h w; show undef = gv (false) _; rw [h]; rfl) ?_
          intro hc
          cases hc
        · refine StepAt.guarded 12 375 false _ rfl rfl rfl (by decide) (by kernel_rfl) (false) (by intro w v h; (have h : v = gv (false) (.bool false) := h); rw [h]; (simp [gv, undef])) (by intro h w; show undef = gv (false) _; rw [h]; rfl) ?_
          intro hc
          cases hc
        · refine StepAt.guarded 12 375 false _ rfl rfl rfl (by decide) (by kernel_rfl) (false) (by intro w v h; (have h : v = gv (false) (.bool false) := h); rw [h]; (simp [gv, undef])) (by intro h w; show undef = gv (false) _; rw [h]; rfl) ?_
          intro hc
          cases hc
        · refine StepAt.guarded 12 375 false _ rfl rfl rfl (by decide) (by kernel_rfl) (false) (by intro w v h; (have h : v = gv (false) (.bool false) := h); rw [h]; (simp [gv, undef])) (by intro h w; show undef = gv (false) _; rw [h]; rfl) ?_
          intro hc
          cases hc
        · refine StepAt.guarded 12 375 false _ rfl rfl rfl (by decide) (by kernel_rfl) (false) (by intro w v h; (have h : v = gv (false) (.bool false) := h); rw [h]; (simp [gv, undef])) (by intro h w; show undef = gv (false) _; rw [h]; rfl) ?_
          intro hc
          cases hc
        · refine StepAt.guarded 22 385 true _ rfl rfl rfl (by decide) (by kernel_rfl) (false) (by intro w v h; (have h : v = gv (false) (.bool false) := h); rw [h]; (simp [gv, undef])) (by intro h w; show undef = gv (false) _; rw [h]; rfl) ?_
          intro hc
          cases hc
        · refine StepAt.guarded 22 385 true _ rfl rfl rfl (by decide) (by kernel_rfl) (false) (by intro w v h; (have h : v = gv (false) (.bool false) := h); rw [h]; (simp [gv, undef])) (by intro h w; show undef = gv (false) _; rw [h]; rfl) ?_
          intro hc
          cases hc
        · refine StepAt.guarded 22 385 true _ rfl rfl rfl (by decide) (by kernel_rfl) (false) (by intro w v h; (have h : v = gv (false) (.bool false) := h); rw [h]; (simp [gv, undef])) (by intro h w; show undef = gv (false) _; rw [h]; rfl) ?_
          intro hc
          cases hc
        · refine StepAt.guarded 22 385 true _ rfl rfl rfl (by decide) (by kernel_rfl) (false) (by intro w v h; (have h : v = gv (false) (.bool false) := h); rw [h]; (simp [gv, undef])) (by intro h w; show undef = gv (false) _; rw [h]; rfl) ?_
          intro hc
          cases hc
        · refine StepAt.guarded 22 385 true _ rfl rfl rfl (by decide) (by kernel_rfl) (false) (by intro w v h; (have h : v = gv (false) (.bool false) := h); rw [h]; (simp [gv, undef])) (by intro h w; show undef = gv (false) _; rw [h]; rfl) ?_
          intro hc
          cases hc
        · refine StepAt.guarded 22 385 true _ rfl rfl rfl (by decide) (by kernel_rfl) (false) (by intro w v h; (have h : v = gv (false) (.bool false) := h); rw [h]; (simp [gv, undef])) (by intro h w; show undef = gv (false) _; rw [h]; rfl) ?_
          intro hc
          cases hc
        · refine StepAt.guarded 22 385 true _ rfl rfl rfl (by decide) (by kernel_rfl) (false) (by intro w v h; (have h : v = gv (false) (.bool false) := h); rw [h]; (simp [gv, undef])) (by intro h w; show undef = gv (false) _; rw [h]; rfl) ?_
          intro hc
          cases hc
        · refine StepAt.guarded 22 385 true _ rfl rfl rfl (by decide) (by kernel_rfl) (false) (by intro w v h; (have h : v = gv (false) (.bool false) := h); rw [h]; (simp [gv, undef])) (by intro h w; show undef = gv (false) _; rw [h]; rfl) ?_
          intro hc
          cases hc
        · refine StepAt.guarded 22 385 true _ rfl rfl rfl (by decide) (by kernel_rfl) (false) (by intro w v h; (have h : v = gv (false) (.bool false) := h); rw [h]; (simp [gv, undef])) (by intro h w; show undef = gv (false) _; rw [h]; rfl) ?_
          intro hc
          cases hc
        · refine StepAt.guarded 12 375 false _ rfl rfl rfl (by decide) (by kernel_rfl) (false) (by intro w v h; (have h : v = gv (false) (.bool false) := h); rw [h]; (simp [gv, undef])) (by intro h w; show undef = gv (false) _; rw [h]; rfl) ?_
          intro hc
          cases hc
        · refine StepAt.guarded 2 365 true _ rfl rfl rfl (by decide) (by kernel_rfl) (false) (by intro w v h; (have h : v = .bool false := h); rw [h]; (simp [gv, undef])) (by intro h w; show undef = gv (false) _; rw [h]; rfl) ?_
          intro hc
          cases hc
        · refine StepAt.plain rfl ?_
          intro f w' hG hfr hp Kx hK
          have g365 : f 365 = .bool false := hp 2 _ 365 rfl rfl (by kernel_rfl)
          have g396 : f 396 = gv (false) (.bool false) := hp 33 _ 396 rfl rfl (by kernel_rfl)
          clear hfr hp
          simp only [gv_true, gv_false] at g396
          go_simp
          exact hK _ _ rfl hG (Below.refl _ _)
      · intro fy wy hG hfr hR
        have g397 : fy 397 = .bool false := hR 34 _ 397 rfl rfl
        have q0 := hfr 0 (by kernel_rfl)
        have q3 := hfr 3 (by kernel_rfl)
        have q5 := hfr 5 (by kernel_rfl)
        have q20 := hfr 20 (by kernel_rfl)
        have q36 := hfr 36 (by kernel_rfl)
        have q37 := hfr 37 (by kernel_rfl)
        have q38 := hfr 38 (by kernel_rfl)
        have q299 := hfr 299 (by kernel_rfl)
        have q300 := hfr 300 (by kernel_rfl)
        have q301 := hfr 301 (by kernel_rfl)
        have HG8 := Lib.hid hG
        clear hfr hR hG
        change fy 397 = _ at g397
        rw [fr_lit400 fy, q0, q3, q5, q20, q36, q37, q38, q299, q300, q301, g397]
        go_wp2_with fail
        refine ⟨⟨_, 0 + 1, lit_fr400 _ rfl, rfl, rfl, rfl, rfl, rfl, rfl, rfl, rfl, rfl, by go_num, by omega, HB8.out.trans (HG8.out.mono HB8.out.size)⟩, ?_⟩
        exact HM.out _ _ (by go_num) hlt
    · obtain ⟨jp, rfl⟩ : ∃ jp, j = jp + 1 := ⟨j - 1, by omega⟩
      rw [show ((jp + 1 : Nat) : Int) = (jp : Int) + 1 by push_cast; rfl]
      obtain ⟨z, hzz⟩ : ∃ z, l[jp]? = some z := ⟨_, List.getElem?_eq_getElem (by have := HPP.out.length_eq; simp at this; have := HAL.out; omega)⟩
      have hless := prev_less HPW.out HPP.out HSS.out HSRT.out hzz (Nat.lt_succ_self _)
      have HCP : Hid (∀ W, Below W8.heap.size W8 W → W.cell? ⟨g, jp * 4, none⟩ = some (.string z.1.1) ∧ W.cell? ⟨g, jp * 4 + 1, none⟩ = some (.int .i64 z.1.2)) := Lib.hid fun W hW => by
        obtain ⟨g', hg', p0, p1, _⟩ := HOW.out W (HB8.out.trans (hW.mono HB8.out.size)) jp z hzz
        injection hg' with hg'
        injection hg' with hg' _ _
        rw [← hg'] at p0 p1
        exact ⟨p0, p1⟩
      obtain ⟨⟨pt, pn⟩, hyz⟩ := z
      dsimp only at HCP
      have hjal : jp < al := by omega
      clear hzz
      rcases hless with hl1 | ⟨hl1, hl2⟩
      · dsimp only at hl1
        have HQCM : Hid (Op.bytesLess pt.toList kt.toList = true) := Lib.hid (by rw [qbl_eq]; exact decide_eq_true hl1)
        have HQEL : Hid ((pt.toList == kt.toList) = false) := Lib.hid (by
          rw [beq_eq_false_iff_ne]
          intro e
          rw [e] at hl1
          exact absurd hl1 (List.lt_irrefl _))
        clear hl1
        refine region_inv' (n := 400) rfl rfl (by kernel_rfl) (by kernel_rfl) (fun i v _ => match i with | 0 => v = .int .i64 ((jp : Int) + 1) | 1 => v = .bool true | 2 => v = .bool true | 3 => v = gv (true) (.slice (some ⟨g, 0, none⟩) al gc) | 4 => v = gv (true) (.int .i64 ((jp : Int) + 1)) | 5 => v = gv (true) (.int .i64 (jp : Int)) | 6 => v = gv (true) (.pointer (some ⟨g, jp * 4, none⟩)) | 7 => v = gv (true) (.pointer (some ⟨g, jp * 4, none⟩)) | 8 => v = gv (true) (.string pt) | 9 => v = gv (true) (.pointer (some ⟨XB, 0, none⟩)) | 10 => v = gv (true) (.string kt) | 11 => v = gv (true) (.bool false) | 12 => v = gv (true) (.bool false) | 13 => v = gv (true) (.slice (some ⟨g, 0, none⟩) al gc) | 14 => v = gv (true) (.int .i64 ((jp : Int) + 1)) | 15 => v = gv (true) (.int .i64 (jp : Int)) | 16 => v = gv (true) (.pointer (some ⟨g, jp * 4, none⟩)) | 17 => v = gv (true) (.pointer (some ⟨g, jp * 4, none⟩)) | 18 => v = gv (true) (.string pt) | 19 => v = gv (true) (.pointer (some ⟨XB, 0, none⟩)) | 20 => v = gv (true) (.string kt) | 21 => v = gv (true) (.bool false) | 22 => v = gv (true) (.bool false) | 23 => v = gv (false) (.slice (some ⟨g, 0, none⟩) al gc) | 24 => v = gv (false) (.int .i64 ((jp : Int) + 1)) | 25 => v = gv (false) (.int .i64 (jp : Int)) | 26 => v = gv (false) (.pointer (some ⟨g, jp * 4, none⟩)) | 27 => v = gv (false) (.pointer (some ⟨g, jp * 4 + 1, none⟩)) | 28 => v = gv (false) (.int .i64 pn) | 29 => v = gv (false) (.pointer (some ⟨XB, 1, none⟩)) | 30 => v = gv (false) (.int .i64 kn) | 31 => v = gv (false) (.bool false) | 32 => v = gv (true) (.bool false) | 33 => v = gv (true) (.bool false) | 34 => v = .bool false | _ => True)
          (fun w' => Below W8.heap.size W8 w') (fun w' w2 => Below W8.heap.size w' w2) (fun w' => Below.refl _ _) (fun _ _ _ _ _ h => h) (Below.refl _ _).drew ?_ ?_
        · simp only [AllAt]
          refine ⟨?_, ?_, ?_, ?_, ?_, ?_, ?_, ?_, ?_, ?_, ?_, ?_, ?_, ?_, ?_, ?_, ?_, ?_, ?_, ?_, ?_, ?_, ?_, ?_, ?_, ?_, ?_, ?_, ?_, ?_, ?_, ?_, ?_, ?_, ?_, trivial⟩
          · refine StepAt.plain rfl ?_
            intro f w' hG hfr hp Kx hK
            have g21 : f 21 = .int .i64 ((jp : Int) + 1) := hfr 21 (by kernel_rfl)
            clear hfr hp
            go_simp
            exact hK _ _ rfl hG (Below.refl _ _)
          · refine StepAt.plain rfl ?_
            intro f w' hG hfr hp Kx hK
            have g363 : f 363 = .int .i64 ((jp : Int) + 1) := hp 0 _ 363 rfl rfl (by kernel_rfl)
            clear hfr hp
            have hj0 : decide (0 < (jp : Int) + 1) = true := decide_eq_true (by omega)
            have hj1 : decide (0 < jp + 1) = true := decide_eq_true (by omega)
            go_simp
            exact hK _ _ rfl hG (Below.refl _ _)
          · refine StepAt.plain rfl ?_
            intro f w' hG hfr hp Kx hK
            have g364 : f 364 = .bool true := hp 1 _ 364 rfl rfl (by kernel_rfl)
            clear hfr hp
            go_simp
            exact hK _ _ rfl hG (Below.refl _ _)
          · refine StepAt.guarded 2 365 true _ rfl rfl rfl (by decide) (by kernel_rfl) (true) (by intro w v h; (have h : v = .bool true := h); rw [h]; (simp [gv, undef])) (by intro h w; show undef = gv (true) _; rw [h]; rfl) ?_
            intro hc f w' hG hfr hp Kx hK
            have g20 : f 20 = .slice (some ⟨g, 0, none⟩) al gc := hfr 20 (by kernel_rfl)
            clear hfr hp
            go_simp
            exact hK _ _ rfl hG (Below.refl _ _)
          · refine StepAt.guarded 2 365 true _ rfl rfl rfl (by decide) (by kernel_rfl) (true) (by intro w v h; (have h : v = .bool true := h); rw [h]; (simp [gv, undef])) (by intro h w; show undef = gv (true) _; rw [h]; rfl) ?_
            intro hc f w' hG hfr hp Kx hK
            have g21 : f 21 = .int .i64 ((jp : Int) + 1) := hfr 21 (by kernel_rfl)
            clear hfr hp
            go_simp
            exact hK _ _ rfl hG (Below.refl _ _)
          · refine StepAt.guarded 2 365 true _ rfl rfl rfl (by decide) (by kernel_rfl) (true) (by intro w v h; (have h : v = .bool true := h); rw [h]; (simp [gv, undef])) (by intro h w; show undef = gv (true) _; rw [h]; rfl) ?_
            intro hc f w' hG hfr hp Kx hK
            have g367 : f 367 = gv (true) (.int .i64 ((jp : Int) + 1)) := hp 4 _ 367 rfl rfl (by kernel_rfl)
            clear hfr hp
            simp only [gv_true, gv_false, Bool.not_false, Bool.not_true, Bool.and_true, Bool.true_and] at g367
            have hwr : IntKind.i64.wrap ((jp : Int) + 1 - 1) = (jp : Int) := by rw [show (jp : Int) + 1 - 1 = (jp : Int) by omega]; exact IntWalk.i64_in _ (by omega)
            have hwr2 : IntKind.i64.wrap (jp : Int) = (jp : Int) := IntWalk.i64_in _ (by omega)
            go_simp
            exact hK _ _ rfl hG (Below.refl _ _)
          · refine StepAt.guarded 2 365 true _ rfl rfl rfl (by decide) (by kernel_rfl) (true) (by intro w v h; (have h : v = .bool true := h); rw [h]; (simp [gv, undef])) (by intro h w; show undef = gv (true) _; rw [h]; rfl) ?_
            intro hc f w' hG hfr hp Kx hK
            have g366 : f 366 = gv (true) (.slice (some ⟨g, 0, none⟩) al gc) := hp 3 _ 366 rfl rfl (by kernel_rfl)
            have g368 : f 368 = gv (true) (.int .i64 (jp : Int)) := hp 5 _ 368 rfl rfl (by kernel_rfl)
            clear hfr hp
            simp only [gv_true, gv_false, Bool.not_false, Bool.not_true, Bool.and_true, Bool.true_and] at g366 g368
            have hil : (jp : Int) < (al : Int) := by omega
            go_simp
            exact hK _ _ rfl hG (Below.refl _ _)
          · refine StepAt.guarded 2 365 true _ rfl rfl rfl (by decide) (by kernel_rfl) (true) (by intro w v h; (have h : v = .bool true := h); rw [h]; (simp [gv, undef])) (by intro h w; show undef = gv (true) _; rw [h]; rfl) ?_
            intro hc f w' hG hfr hp Kx hK
            have g369 : f 369 = gv (true) (.pointer (some ⟨g, jp * 4, none⟩)) := hp 6 _ 369 rfl rfl (by kernel_rfl)
            clear hfr hp
            simp only [gv_true, gv_false, Bool.not_false, Bool.not_true, Bool.and_true, Bool.true_and] at g369
            go_simp
            exact hK _ _ rfl hG (Below.refl _ _)
          · refine StepAt.guarded 2 365 true _ rfl rfl rfl (by decide) (by kernel_rfl) (true) (by intro w v h; (have h : v = .bool true := h); rw [h]; (simp [gv, undef])) (by intro h w; show undef = gv (true) _; rw [h]; rfl) ?_
            intro hc f w' hG hfr hp Kx hK
            have g370 : f 370 = gv (true) (.pointer (some ⟨g, jp * 4, none⟩)) := hp 7 _ 370 rfl rfl (by kernel_rfl)
            clear hfr hp
            simp only [gv_true, gv_false, Bool.not_false, Bool.not_true, Bool.and_true, Bool.true_and] at g370
            obtain ⟨d0, d1⟩ := HCP.out _ hG
            go_simp
            exact hK _ _ rfl hG (Below.refl _ _)
          · refine StepAt.guarded 2 365 true _ rfl rfl rfl (by decide) (by kernel_rfl) (true) (by intro w v h; (have h : v = .bool true := h); rw [h]; (simp [gv, undef])) (by intro h w; show undef = gv (true) _; rw [h]; rfl) ?_
            intro hc f w' hG hfr hp Kx hK
            have g22 : f 22 = .pointer (some ⟨XB, 0, none⟩) := hfr 22 (by kernel_rfl)
            clear hfr hp
            go_simp
            exact hK _ _ rfl hG (Below.refl _ _)
          · refine StepAt.guarded 2 365 true _ rfl rfl rfl (by decide) (by kernel_rfl) (true) (by intro w v h; (have h : v = .bool true := h); rw [h]; (simp [gv, undef])) (by intro h w; show undef = gv (true) _; rw [h]; rfl) ?_
            intro hc f w' hG hfr hp Kx hK
            have g372 : f 372 = gv (true) (.pointer (some ⟨XB, 0, none⟩)) := hp 9 _ 372 rfl rfl (by kernel_rfl)
            clear hfr hp
            simp only [gv_true, gv_false, Bool.not_false, Bool.not_true, Bool.and_true, Bool.true_and] at g372
            obtain ⟨x0, x1⟩ := HCX.out _ hG
            go_simp
            exact hK _ _ rfl hG (Below.refl _ _)
          · refine StepAt.guarded 2 365 true _ rfl rfl rfl (by decide) (by kernel_rfl) (true) (by intro w v h; (have h : v = .bool true := h); rw [h]; (simp [gv, undef])) (by intro h w; show undef = gv (true) _; rw [h]; rfl) ?_
            intro hc f w' hG hfr hp Kx hK
            have g371 : f 371 = gv (true) (.string pt) := hp 8 _ 371 rfl rfl (by kernel_rfl)
            have g373 : f 373 = gv (true) (.string kt) := hp 10 _ 373 rfl rfl (by kernel_rfl)
            clear hfr hp
            simp only [gv_true, gv_false, Bool.not_false, Bool.not_true, Bool.and_true, Bool.true_and] at g371 g373
            have hcmp := HQCM.out
            go_simp
            exact hK _ _ rfl hG (Below.refl _ _)
          · refine StepAt.guarded 2 365 true _ rfl rfl rfl (by decide) (by kernel_rfl) (true) (by intro w v h; (have h : v = .bool true := h); rw [h]; (simp [gv, undef])) (by intro h w; show undef = gv (true) _; rw [h]; rfl) ?_
            intro hc f w' hG hfr hp Kx hK
            have g374 : f 374 = gv (true) (.bool false) := hp 11 _ 374 rfl rfl (by kernel_rfl)
            clear hfr hp
            simp only [gv_true, gv_false, Bool.not_false, Bool.not_true, Bool.and_true, Bool.true_and] at g374
            go_simp
            exact hK _ _ rfl hG (Below.refl _ _)
          · refine StepAt.guarded 12 375 false _ rfl rfl rfl (by decide) (by kernel_rfl) (true) (by intro w v h; (have h : v = gv (true) (.bool false) := h); rw [h]; (simp [gv, undef])) (by intro h w; show undef = gv (true) _; rw [h]; rfl) ?_
            intro hc f w' hG hfr hp Kx hK
            have g20 : f 20 = .slice (some ⟨g, 0, none⟩) al gc := hfr 20 (by kernel_rfl)
            clear hfr hp
            go_simp
            exact hK _ _ rfl hG (Below.refl _ _)
          · refine StepAt.guarded 12 375 false _ rfl rfl rfl (by decide) (by kernel_rfl) (true) (by intro w v h; (have h : v = gv (true) (.bool false) := h); rw [h]; (simp [gv, undef])) (by intro h w; show undef = gv (true) _; rw [h]; rfl) ?_
            intro hc f w' hG hfr hp Kx hK
            have g21 : f 21 = .int .i64 ((jp : Int) + 1) := hfr 21 (by kernel_rfl)
            clear hfr hp
            go_simp
            exact hK _ _ rfl hG (Below.refl _ _)
          · refine StepAt.guarded 12 375 false _ rfl rfl rfl (by decide) (by kernel_rfl) (true) (by intro w v h; (have h : v = gv (true) (.bool false) := h); rw [h]; (simp [gv, undef])) (by intro h w; show undef = gv (true) _; rw [h]; rfl) ?_
            intro hc f w' hG hfr hp Kx hK
            have g377 : f 377 = gv (true) (.int .i64 ((jp : Int) + 1)) := hp 14 _ 377 rfl rfl (by kernel_rfl)
            clear hfr hp
            simp only [gv_true, gv_false, Bool.not_false, Bool.not_true, Bool.and_true, Bool.true_and] at g377
            have hwr : IntKind.i64.wrap ((jp : Int) + 1 - 1) = (jp : Int) := by rw [show (jp : Int) + 1 - 1 = (jp : Int) by omega]; exact IntWalk.i64_in _ (by omega)
            have hwr2 : IntKind.i64.wrap (jp : Int) = (jp : Int) := IntWalk.i64_in _ (by omega)
            go_simp
            exact hK _ _ rfl hG (Below.refl _ _)
          · refine StepAt.guarded 12 375 false _ rfl rfl rfl (by decide) (by kernel_rfl) (true) (by intro w v h; (have h : v = gv (true) (.bool false) := h); rw [h]; (simp [gv, undef])) (by intro h w; show undef = gv (true) _; rw [h]; rfl) ?_
            intro hc f w' hG hfr hp Kx hK
            have g376 : f 376 = gv (true) (.slice (some ⟨g, 0, none⟩) al gc) := hp 13 _ 376 rfl rfl (by kernel_rfl)
            have g378 : f 378 = gv (true) (.int .i64 (jp : Int)) := hp 15 _ 378 rfl rfl (by kernel_rfl)
            clear hfr hp
            simp only [gv_true, gv_false, Bool.not_false, Bool.not_true, Bool.and_true, Bool.true_and] at g376 g378
            have hil : (jp : Int) < (al : Int) := by omega
            go_simp
            exact hK _ _ rfl hG (Below.refl _ _)
          · refine StepAt.guarded 12 375 false _ rfl rfl rfl (by decide) (by kernel_rfl) (true) (by intro w v h; (have h : v = gv (true) (.bool false) := h); rw [h]; (simp [gv, undef])) (by intro h w; show undef = gv (true) _; rw [h]; rfl) ?_
            intro hc f w' hG hfr hp Kx hK
            have g379 : f 379 = gv (true) (.pointer (some ⟨g, jp * 4, none⟩)) := hp 16 _ 379 rfl rfl (by kernel_rfl)
            clear hfr hp
            simp only [gv_true, gv_false, Bool.not_false, Bool.not_true, Bool.and_true, Bool.true_and] at g379
            go_simp
            exact hK _ _ rfl hG (Below.refl _ _)
          · refine StepAt.guarded 12 375 false _ rfl rfl rfl (by decide) (by kernel_rfl) (true) (by intro w v h; (have h : v = gv (true) (.bool false) := h); rw [h]; (simp [gv, undef])) (by intro h w; show undef = gv (true) _; rw [h]; rfl) ?_
            intro hc f w' hG hfr hp Kx hK
            have g380 : f 380 = gv (true) (.pointer (some ⟨g, jp * 4, none⟩)) := hp 17 _ 380 rfl rfl (by kernel_rfl)
            clear hfr hp
            simp only [gv_true, gv_false, Bool.not_false, Bool.not_true, Bool.and_true, Bool.true_and] at g380
            obtain ⟨d0, d1⟩ := HCP.out _ hG
            go_simp
            exact hK _ _ rfl hG (Below.refl _ _)
          · refine StepAt.guarded 12 375 false _ rfl rfl rfl (by decide) (by kernel_rfl) (true) (by intro w v h; (have h : v = gv (true) (.bool false) := h); rw [h]; (simp [gv, undef])) (by intro h w; show undef = gv (true) _; rw [h]; rfl) ?_
            intro hc f w' hG hfr hp Kx hK
            have g22 : f 22 = .pointer (some ⟨XB, 0, none⟩) := hfr 22 (by kernel_rfl)
            clear hfr hp
            go_simp
            exact hK _ _ rfl hG (Below.refl _ _)
          · refine StepAt.guarded 12 375 false _ rfl rfl rfl (by decide) (by kernel_rfl) (true) (by intro w v h; (have h : v = gv (true) (.bool false) := h); rw [h]; (simp [gv, undef])) (by intro h w; show undef = gv (true) _; rw [h]; rfl) ?_
            intro hc f w' hG hfr hp Kx hK
            have g382 : f 382 = gv (true) (.pointer (some ⟨XB, 0, none⟩)) := hp 19 _ 382 rfl rfl (by kernel_rfl)
            clear hfr hp
            simp only [gv_true, gv_false, Bool.not_false, Bool.not_true, Bool.and_true, Bool.true_and] at g382
            obtain ⟨x0, x1⟩ := HCX.out _ hG
            go_simp
            exact hK _ _ rfl hG (Below.refl _ _)
          · refine StepAt.guarded 12 375 false _ rfl rfl rfl (by decide) (by kernel_rfl) (true) (by intro w v h; (have h : v = gv (true) (.bool false) := h); rw [h]; (simp [gv, undef])) (by intro h w; show undef = gv (true) _; rw [h]; rfl) ?_
            intro hc f w' hG hfr hp Kx hK
            have g381 : f 381 = gv (true) (.string pt) := hp 18 _ 381 rfl rfl (by kernel_rfl)
            have g383 : f 383 = gv (true) (.string kt) := hp 20 _ 383 rfl rfl (by kernel_rfl)
            clear hfr hp
            simp only [gv_true, gv_false, Bool.not_false, Bool.not_true, Bool.and_true, Bool.true_and] at g381 g383
            have heql := HQEL.out
            go_simp
            exact hK _ _ rfl hG (Below.refl _ _)
          · refine StepAt.guarded 12 375 false _ rfl rfl rfl (by decide) (by kernel_rfl) (true) (by intro w v h; (have h : v = gv (true) (.bool false) := h); rw [h]; (simp [gv, undef])) (by intro h w; show undef = gv (true) _; rw [h]; rfl) ?_
            intro hc f w' hG hfr hp Kx hK
            have g384 : f 384 = gv (true) (.bool false) := hp 21 _ 384 rfl rfl (by kernel_rfl)
            clear hfr hp
            simp only [gv_true, gv_false, Bool.not_false, Bool.not_true, Bool.and_true, Bool.true_and] at g384
            go_simp
            exact hK _ _ rfl hG (Below.refl _ _)
          · refine StepAt.guarded 22 385 true _ rfl rfl rfl (by decide) (by kernel_rfl) (false) (by intro w v h; (have h : v = gv (true) (.bool false) := h); rw [h]; (simp [gv, undef])) (by intro h w; show undef = gv (false) _; rw [h]; rfl) ?_
            intro hc
            cases hc
          · refine StepAt.guarded 22 385 true _ rfl rfl rfl (by decide) (by kernel_rfl) (false) (by intro w v h; (have h : v = gv (true) (.bool false) := h); rw [h]; (simp [gv, undef])) (by intro h w; show undef = gv (false) _; rw [h]; rfl) ?_
            intro hc
            cases hc
          · refine StepAt.guarded 22 385 true _ rfl rfl rfl (by decide) (by kernel_rfl) (false) (by intro w v h; (have h : v = gv (true) (.bool false) := h); rw [h]; (simp [gv, undef])) (by intro h w; show undef = gv (false) _; rw [h]; rfl) ?_
            intro hc
            cases hc
          · refine StepAt.guarded 22 385 true _ rfl rfl rfl (by decide) (by kernel_rfl) (false) (by intro w v h; (have h : v = gv (true) (.bool false) := h); rw [h]; (simp [gv, undef])) (by intro h w; show undef = gv (false) _; rw [h]; rfl) ?_
            intro hc
            cases hc
          · refine StepAt.guarded 22 385 true _ rfl rfl rfl (by decide) (by kernel_rfl) (false) (by intro w v h; (have h : v = gv (true) (.bool false) := h); rw [h]; (simp [gv, undef])) (by intro h w; show undef = gv (false) _; rw [h]; rfl) ?_
            intro hc
            cases hc
          · refine StepAt.guarded 22 385 true _ rfl rfl rfl (by decide) (by kernel_rfl) (false) (by intro w v h; (have h : v = gv (true) (.bool false) := h); rw [h]; (simp [gv, undef])) (by intro h w; show undef = gv (false) _; rw [h]; rfl) ?_
            intro hc
            cases hc
          · refine StepAt.guarded 22 385 true _ rfl rfl rfl (by decide) (by kernel_rfl) (false) (by intro w v h; (have h : v = gv (true) (.bool false) := h); rw [h]; (simp [gv, undef])) (by intro h w; show undef = gv (false) _; rw [h]; rfl) ?_
            intro hc
            cases hc
          · refine StepAt.guarded 22 385 true _ rfl rfl rfl (by decide) (by kernel_rfl) (false) (by intro w v h; (have h : v = gv (true) (.bool false) := h); rw [h]; (simp [gv, undef])) (by intro h w; show undef = gv (false) _; rw [h]; rfl) ?_
            intro hc
            cases hc
          · refine StepAt.guarded 22 385 true _ rfl rfl rfl (by decide) (by kernel_rfl) (false) (by intro w v h; (have h : v = gv (true) (.bool false) := h); rw [h]; (simp [gv, undef])) (by intro h w; show undef = gv (false) _; rw [h]; rfl) ?_
            intro hc
            cases hc
          · refine StepAt.guarded 12 375 false _ rfl rfl rfl (by decide) (by kernel_rfl) (true) (by intro w v h; (have h : v = gv (true) (.bool false) := h); rw [h]; (simp [gv, undef])) (by intro h w; show undef = gv (true) _; rw [h]; rfl) ?_
            intro hc f w' hG hfr hp Kx hK
            have g385 : f 385 = gv (true) (.bool false) := hp 22 _ 385 rfl rfl (by kernel_rfl)
            have g394 : f 394 = gv (false) (.bool false) := hp 31 _ 394 rfl rfl (by kernel_rfl)
            clear hfr hp
            simp only [gv_true, gv_false, Bool.not_false, Bool.not_true, Bool.and_true, Bool.true_and] at g385 g394
            go_simp
            exact hK _ _ rfl hG (Below.refl _ _)
          · refine StepAt.guarded 2 365 true _ rfl rfl rfl (by decide) (by kernel_rfl) (true) (by intro w v h; (have h : v = .bool true := h); rw [h]; (simp [gv, undef])) (by intro h w; show undef = gv (true) _; rw [h]; rfl) ?_
            intro hc f w' hG hfr hp Kx hK
            have g375 : f 375 = gv (true) (.bool false) := hp 12 _ 375 rfl rfl (by kernel_rfl)
            have g395 : f 395 = gv (true) (.bool false) := hp 32 _ 395 rfl rfl (by kernel_rfl)
            clear hfr hp
            simp only [gv_true, gv_false, Bool.not_false, Bool.not_true, Bool.and_true, Bool.true_and] at g375 g395
            go_simp
            exact hK _ _ rfl hG (Below.refl _ _)
          · refine StepAt.plain rfl ?_
            intro f w' hG hfr hp Kx hK
            have g365 : f 365 = .bool true := hp 2 _ 365 rfl rfl (by kernel_rfl)
            have g396 : f 396 = gv (true) (.bool false) := hp 33 _ 396 rfl rfl (by kernel_rfl)
            clear hfr hp
            simp only [gv_true, gv_false] at g396
            go_simp
            exact hK _ _ rfl hG (Below.refl _ _)
        · intro fy wy hG hfr hR
          have g397 : fy 397 = .bool false := hR 34 _ 397 rfl rfl
          have q0 := hfr 0 (by kernel_rfl)
          have q3 := hfr 3 (by kernel_rfl)
          have q5 := hfr 5 (by kernel_rfl)
          have q20 := hfr 20 (by kernel_rfl)
          have q36 := hfr 36 (by kernel_rfl)
          have q37 := hfr 37 (by kernel_rfl)
          have q38 := hfr 38 (by kernel_rfl)
          have q299 := hfr 299 (by kernel_rfl)
          have q300 := hfr 300 (by kernel_rfl)
          have q301 := hfr 301 (by kernel_rfl)
          have HG8 := Lib.hid hG
          clear hfr hR hG
          change fy 397 = _ at g397
          rw [fr_lit400 fy, q0, q3, q5, q20, q36, q37, q38, q299, q300, q301, g397]
          go_wp2_with fail
          refine ⟨⟨_, jp + 1 + 1, lit_fr400 _ rfl, rfl, rfl, rfl, rfl, rfl, rfl, rfl, rfl, rfl, by go_num, by omega, HB8.out.trans (HG8.out.mono HB8.out.size)⟩, ?_⟩
          exact HM.out _ _ (by go_num) hlt
      · dsimp only at hl1 hl2
        obtain rfl : kt = pt := hl1.symm
        have HQCM := Lib.hid hl2
        have HQEL := Lib.hid hl2
        refine region_inv' (n := 400) rfl rfl (by kernel_rfl) (by kernel_rfl) (fun i v _ => match i with | 0 => v = .int .i64 ((jp : Int) + 1) | 1 => v = .bool true | 2 => v = .bool true | 3 => v = gv (true) (.slice (some ⟨g, 0, none⟩) al gc) | 4 => v = gv (true) (.int .i64 ((jp : Int) + 1)) | 5 => v = gv (true) (.int .i64 (jp : Int)) | 6 => v = gv (true) (.pointer (some ⟨g, jp * 4, none⟩)) | 7 => v = gv (true) (.pointer (some ⟨g, jp * 4, none⟩)) | 8 => v = gv (true) (.string kt) | 9 => v = gv (true) (.pointer (some ⟨XB, 0, none⟩)) | 10 => v = gv (true) (.string kt) | 11 => v = gv (true) (.bool false) | 12 => v = gv (true) (.bool false) | 13 => v = gv (true) (.slice (some ⟨g, 0, none⟩) al gc) | 14 => v = gv (true) (.int .i64 ((jp : Int) + 1)) | 15 => v = gv (true) (.int .i64 (jp : Int)) | 16 => v = gv (true) (.pointer (some ⟨g, jp * 4, none⟩)) | 17 => v = gv (true) (.pointer (some ⟨g, jp * 4, none⟩)) | 18 => v = gv (true) (.string kt) | 19 => v = gv (true) (.pointer (some ⟨XB, 0, none⟩)) | 20 => v = gv (true) (.string kt) | 21 => v = gv (true) (.bool true) | 22 => v = gv (true) (.bool true) | 23 => v = gv (true) (.slice (some ⟨g, 0, none⟩) al gc) | 24 => v = gv (true) (.int .i64 ((jp : Int) + 1)) | 25 => v = gv (true) (.int .i64 (jp : Int)) | 26 => v = gv (true) (.pointer (some ⟨g, jp * 4, none⟩)) | 27 => v = gv (true) (.pointer (some ⟨g, jp * 4 + 1, none⟩)) | 28 => v = gv (true) (.int .i64 pn) | 29 => v = gv (true) (.pointer (some ⟨XB, 1, none⟩)) | 30 => v = gv (true) (.int .i64 kn) | 31 => v = gv (true) (.bool false) | 32 => v = gv (true) (.bool false) | 33 => v = gv (true) (.bool false) | 34 => v = .bool false | _ => True)
          (fun w' => Below W8.heap.size W8 w') (fun w' w2 => Below W8.heap.size w' w2) (fun w' => Below.refl _ _) (fun _ _ _ _ _ h => h) (Below.refl _ _).drew ?_ ?_
        · simp only [AllAt]
          refine ⟨?_, ?_, ?_, ?_, ?_, ?_, ?_, ?_, ?_, ?_, ?_, ?_, ?_, ?_, ?_, ?_, ?_, ?_, ?_, ?_, ?_, ?_, ?_, ?_, ?_, ?_, ?_, ?_, ?_, ?_, ?_, ?_, ?_, ?_, ?_, trivial⟩
          · refine StepAt.plain rfl ?_
            intro f w' hG hfr hp Kx hK
            have g21 : f 21 = .int .i64 ((jp : Int) + 1) := hfr 21 (by kernel_rfl)
            clear hfr hp
            go_simp
            exact hK _ _ rfl hG (Below.refl _ _)
          · refine StepAt.plain rfl ?_
            intro f w' hG hfr hp Kx hK
            have g363 : f 363 = .int .i64 ((jp : Int) + 1) := hp 0 _ 363 rfl rfl (by kernel_rfl)
            clear hfr hp
            have hj0 : decide (0 < (jp : Int) + 1) = true := decide_eq_true (by omega)
            have hj1 : decide (0 < jp + 1) = true := decide_eq_true (by omega)
            go_simp
            exact hK _ _ rfl hG (Below.refl _ _)
          · refine StepAt.plain rfl ?_
            intro f w' hG hfr hp Kx hK
            have g364 : f 364 = .bool true := hp 1 _ 364 rfl rfl (by kernel_rfl)
            clear hfr hp
            go_simp
            exact hK _ _ rfl hG (Below.refl _ _)
          · refine StepAt.guarded 2 365 true _ rfl rfl rfl (by decide) (by kernel_rfl) (true) (by intro w v h; (have h : v = .bool true := h); rw [h]; (simp [gv, undef])) (by intro h w; show undef = gv (true) _; rw [h]; rfl) ?_
            intro hc f w' hG hfr hp Kx hK
            have g20 : f 20 = .slice (some ⟨g, 0, none⟩) al gc := hfr 20 (by kernel_rfl)
            clear hfr hp
            go_simp
            exact hK _ _ rfl hG (Below.refl _ _)
          · refine StepAt.guarded 2 365 true _ rfl rfl rfl (by decide) (by kernel_rfl) (true) (by intro w v h; (have h : v = .bool true := h); rw [h]; (simp [gv, undef])) (by intro h w; show undef = gv (true) _; rw [h]; rfl) ?_
            intro hc f w' hG hfr hp Kx hK
            have g21 : f 21 = .int .i64 ((jp : Int) + 1) := hfr 21 (by kernel_rfl)
            clear hfr hp
            go_simp
            exact hK _ _ rfl hG (Below.refl _ _)
          · refine StepAt.guarded 2 365 true _ rfl rfl rfl (by decide) (by kernel_rfl) (true) (by intro w v h; (have h : v = .bool true := h); rw [h]; (simp [gv, undef])) (by intro h w; show undef = gv (true) _; rw [h]; rfl) ?_
            intro hc f w' hG hfr hp Kx hK
            have g367 : f 367 = gv (true) (.int .i64 ((jp : Int) + 1)) := hp 4 _ 367 rfl rfl (by kernel_rfl)
            clear hfr hp
            simp only [gv_true, gv_false, Bool.not_false, Bool.not_true, Bool.and_true, Bool.true_and] at g367
            have hwr : IntKind.i64.wrap ((jp : Int) + 1 - 1) = (jp : Int) := by rw [show (jp : Int) + 1 - 1 = (jp : Int) by omega]; exact IntWalk.i64_in _ (by omega)
            have hwr2 : IntKind.i64.wrap (jp : Int) = (jp : Int) := IntWalk.i64_in _ (by omega)
            go_simp
            exact hK _ _ rfl hG (Below.refl _ _)
          · refine StepAt.guarded 2 365 true _ rfl rfl rfl (by decide) (by kernel_rfl) (true) (by intro w v h; (have h : v = .bool true := h); rw [h]; (simp [gv, undef])) (by intro h w; show undef = gv (true) _; rw [h]; rfl) ?_
            intro hc f w' hG hfr hp Kx hK
            have g366 : f 366 = gv (true) (.slice (some ⟨g, 0, none⟩) al gc) := hp 3 _ 366 rfl rfl (by kernel_rfl)
            have g368 : f 368 = gv (true) (.int .i64 (jp : Int)) := hp 5 _ 368 rfl rfl (by kernel_rfl)
            clear hfr hp
            simp only [gv_true, gv_false, Bool.not_false, Bool.not_true, Bool.and_true, Bool.true_and] at g366 g368
            have hil : (jp : Int) < (al : Int) := by omega
            go_simp
            exact hK _ _ rfl hG (Below.refl _ _)
          · refine StepAt.guarded 2 365 true _ rfl rfl rfl (by decide) (by kernel_rfl) (true) (by intro w v h; (have h : v = .bool true := h); rw [h]; (simp [gv, undef])) (by intro h w; show undef = gv (true) _; rw [h]; rfl) ?_
            intro hc f w' hG hfr hp Kx hK
            have g369 : f 369 = gv (true) (.pointer (some ⟨g, jp * 4, none⟩)) := hp 6 _ 369 rfl rfl (by kernel_rfl)
            clear hfr hp
            simp only [gv_true, gv_false, Bool.not_false, Bool.not_true, Bool.and_true, Bool.true_and] at g369
            go_simp
            exact hK _ _ rfl hG (Below.refl _ _)
          · refine StepAt.guarded 2 365 true _ rfl rfl rfl (by decide) (by kernel_rfl) (true) (by intro w v h; (have h : v = .bool true := h); rw [h]; (simp [gv, undef])) (by intro h w; show undef = gv (true) _; rw [h]; rfl) ?_
            intro hc f w' hG hfr hp Kx hK
            have g370 : f 370 = gv (true) (.pointer (some ⟨g, jp * 4, none⟩)) := hp 7 _ 370 rfl rfl (by kernel_rfl)
            clear hfr hp
            simp only [gv_true, gv_false, Bool.not_false, Bool.not_true, Bool.and_true, Bool.true_and] at g370
            obtain ⟨d0, d1⟩ := HCP.out _ hG
            go_simp
            exact hK _ _ rfl hG (Below.refl _ _)
          · refine StepAt.guarded 2 365 true _ rfl rfl rfl (by decide) (by kernel_rfl) (true) (by intro w v h; (have h : v = .bool true := h); rw [h]; (simp [gv, undef])) (by intro h w; show undef = gv (true) _; rw [h]; rfl) ?_
            intro hc f w' hG hfr hp Kx hK
            have g22 : f 22 = .pointer (some ⟨XB, 0, none⟩) := hfr 22 (by kernel_rfl)
            clear hfr hp
            go_simp
            exact hK _ _ rfl hG (Below.refl _ _)
          · refine StepAt.guarded 2 365 true _ rfl rfl rfl (by decide) (by kernel_rfl) (true) (by intro w v h; (have h : v = .bool true := h); rw [h]; (simp [gv, undef])) (by intro h w; show undef = gv (true) _; rw [h]; rfl) ?_
            intro hc f w' hG hfr hp Kx hK
            have g372 : f 372 = gv (true) (.pointer (some ⟨XB, 0, none⟩)) := hp 9 _ 372 rfl rfl (by kernel_rfl)
            clear hfr hp
            simp only [gv_true, gv_false, Bool.not_false, Bool.not_true, Bool.and_true, Bool.true_and] at g372
            obtain ⟨x0, x1⟩ := HCX.out _ hG
            go_simp
            exact hK _ _ rfl hG (Below.refl _ _)
          · refine StepAt.guarded 2 365 true _ rfl rfl rfl (by decide) (by kernel_rfl) (true) (by intro w v h; (have h : v = .bool true := h); rw [h]; (simp [gv, undef])) (by intro h w; show undef = gv (true) _; rw [h]; rfl) ?_
            intro hc f w' hG hfr hp Kx hK
            have g371 : f 371 = gv (true) (.string kt) := hp 8 _ 371 rfl rfl (by kernel_rfl)
            have g373 : f 373 = gv (true) (.string kt) := hp 10 _ 373 rfl rfl (by kernel_rfl)
            clear hfr hp
            simp only [gv_true, gv_false, Bool.not_false, Bool.not_true, Bool.and_true, Bool.true_and] at g371 g373
            have hcmp := HQCM.out
            go_simp
            exact hK _ _ rfl hG (Below.refl _ _)
          · refine StepAt.guarded 2 365 true _ rfl rfl rfl (by decide) (by kernel_rfl) (true) (by intro w v h; (have h : v = .bool true := h); rw [h]; (simp [gv, undef])) (by intro h w; show undef = gv (true) _; rw [h]; rfl) ?_
            intro hc f w' hG hfr hp Kx hK
            have g374 : f 374 = gv (true) (.bool false) := hp 11 _ 374 rfl rfl (by kernel_rfl)
            clear hfr hp
            simp only [gv_true, gv_false, Bool.not_false, Bool.not_true, Bool.and_true, Bool.true_and] at g374
            go_simp
            exact hK _ _ rfl hG (Below.refl _ _)
          · refine StepAt.guarded 12 375 false _ rfl rfl rfl (by decide) (by kernel_rfl) (true) (by intro w v h; (have h : v = gv (true) (.bool false) := h); rw [h]; (simp [gv, undef])) (by intro h w; show undef = gv (true) _; rw [h]; rfl) ?_
            intro hc f w' hG hfr hp Kx hK
            have g20 : f 20 = .slice (some ⟨g, 0, none⟩) al gc := hfr 20 (by kernel_rfl)
            clear hfr hp
            go_simp
            exact hK _ _ rfl hG (Below.refl _ _)
          · refine StepAt.guarded 12 375 false _ rfl rfl rfl (by decide) (by kernel_rfl) (true) (by intro w v h; (have h : v = gv (true) (.bool false) := h); rw [h]; (simp [gv, undef])) (by intro h w; show undef = gv (true) _; rw [h]; rfl) ?_
            intro hc f w' hG hfr hp Kx hK
            have g21 : f 21 = .int .i64 ((jp : Int) + 1) := hfr 21 (by kernel_rfl)
            clear hfr hp
            go_simp
            exact hK _ _ rfl hG (Below.refl _ _)
          · refine StepAt.guarded 12 375 false _ rfl rfl rfl (by decide) (by kernel_rfl) (true) (by intro w v h; (have h : v = gv (true) (.bool false) := h); rw [h]; (simp [gv, undef])) (by intro h w; show undef = gv (true) _; rw [h]; rfl) ?_
            intro hc f w' hG hfr hp Kx hK
            have g377 : f 377 = gv (true) (.int .i64 ((jp : Int) + 1)) := hp 14 _ 377 rfl rfl (by kernel_rfl)
            clear hfr hp
            simp only [gv_true, gv_false, Bool.not_false, Bool.not_true, Bool.and_true, Bool.true_and] at g377
            have hwr : IntKind.i64.wrap ((jp : Int) + 1 - 1) = (jp : Int) := by rw [show (jp : Int) + 1 - 1 = (jp : Int) by omega]; exact IntWalk.i64_in _ (by omega)
            have hwr2 : IntKind.i64.wrap (jp : Int) = (jp : Int) := IntWalk.i64_in _ (by omega)
            go_simp
            exact hK _ _ rfl hG (Below.refl _ _)
          · refine StepAt.guarded 12 375 false _ rfl rfl rfl (by decide) (by kernel_rfl) (true) (by intro w v h; (have h : v = gv (true) (.bool false) := h); rw [h]; (simp [gv, undef])) (by intro h w; show undef = gv (true) _; rw [h]; rfl) ?_
            intro hc f w' hG hfr hp Kx hK
            have g376 : f 376 = gv (true) (.slice (some ⟨g, 0, none⟩) al gc) := hp 13 _ 376 rfl rfl (by kernel_rfl)
            have g378 : f 378 = gv (true) (.int .i64 (jp : Int)) := hp 15 _ 378 rfl rfl (by kernel_rfl)
            clear hfr hp
            simp only [gv_true, gv_false, Bool.not_false, Bool.not_true, Bool.and_true, Bool.true_and] at g376 g378
            have hil : (jp : Int) < (al : Int) := by omega
            go_simp
            exact hK _ _ rfl hG (Below.refl _ _)
          · refine StepAt.guarded 12 375 false _ rfl rfl rfl (by decide) (by kernel_rfl) (true) (by intro w v h; (have h : v = gv (true) (.bool false) := h); rw [h]; (simp [gv, undef])) (by intro h w; show undef = gv (true) _; rw [h]; rfl) ?_
            intro hc f w' hG hfr hp Kx hK
            have g379 : f 379 = gv (true) (.pointer (some ⟨g, jp * 4, none⟩)) := hp 16 _ 379 rfl rfl (by kernel_rfl)
            clear hfr hp
            simp only [gv_true, gv_false, Bool.not_false, Bool.not_true, Bool.and_true, Bool.true_and] at g379
            go_simp
            exact hK _ _ rfl hG (Below.refl _ _)
          · refine StepAt.guarded 12 375 false _ rfl rfl rfl (by decide) (by kernel_rfl) (true) (by intro w v h; (have h : v = gv (true) (.bool false) := h); rw [h]; (simp [gv, undef])) (by intro h w; show undef = gv (true) _; rw [h]; rfl) ?_
            intro hc f w' hG hfr hp Kx hK
            have g380 : f 380 = gv (true) (.pointer (some ⟨g, jp * 4, none⟩)) := hp 17 _ 380 rfl rfl (by kernel_rfl)
            clear hfr hp
            simp only [gv_true, gv_false, Bool.not_false, Bool.not_true, Bool.and_true, Bool.true_and] at g380
            obtain ⟨d0, d1⟩ := HCP.out _ hG
            go_simp
            exact hK _ _ rfl hG (Below.refl _ _)
          · refine StepAt.guarded 12 375 false _ rfl rfl rfl (by decide) (by kernel_rfl) (true) (by intro w v h; (have h : v = gv (true) (.bool false) := h); rw [h]; (simp [gv, undef])) (by intro h w; show undef = gv (true) _; rw [h]; rfl) ?_
            intro hc f w' hG hfr hp Kx hK
            have g22 : f 22 = .pointer (some ⟨XB, 0, none⟩) := hfr 22 (by kernel_rfl)
            clear hfr hp
            go_simp
            exact hK _ _ rfl hG (Below.refl _ _)
          · refine StepAt.guarded 12 375 false _ rfl rfl rfl (by decide) (by kernel_rfl) (true) (by intro w v h; (have h : v = gv (true) (.bool false) := h); rw [h]; (simp [gv, undef])) (by intro h w; show undef = gv (true) _; rw [h]; rfl) ?_
            intro hc f w' hG hfr hp Kx hK
            have g382 : f 382 = gv (true) (.pointer (some ⟨XB, 0, none⟩)) := hp 19 _ 382 rfl rfl (by kernel_rfl)
            clear hfr hp
            simp only [gv_true, gv_false, Bool.not_false, Bool.not_true, Bool.and_true, Bool.true_and] at g382
            obtain ⟨x0, x1⟩ := HCX.out _ hG
            go_simp
            exact hK _ _ rfl hG (Below.refl _ _)
          · refine StepAt.guarded 12 375 false _ rfl rfl rfl (by decide) (by kernel_rfl) (true) (by intro w v h; (have h : v = gv (true) (.bool false) := h); rw [h]; (simp [gv, undef])) (by intro h w; show undef = gv (true) _; rw [h]; rfl) ?_
            intro hc f w' hG hfr hp Kx hK
            have g381 : f 381 = gv (true) (.string kt) := hp 18 _ 381 rfl rfl (by kernel_rfl)
            have g383 : f 383 = gv (true) (.string kt) := hp 20 _ 383 rfl rfl (by kernel_rfl)
            clear hfr hp
            simp only [gv_true, gv_false, Bool.not_false, Bool.not_true, Bool.and_true, Bool.true_and] at g381 g383
            have heql := HQEL.out
            go_simp
            exact hK _ _ rfl hG (Below.refl _ _)
          · refine StepAt.guarded 12 375 false _ rfl rfl rfl (by decide) (by kernel_rfl) (true) (by intro w v h; (have h : v = gv (true) (.bool false) := h); rw [h]; (simp [gv, undef])) (by intro h w; show undef = gv (true) _; rw [h]; rfl) ?_
            intro hc f w' hG hfr hp Kx hK
            have g384 : f 384 = gv (true) (.bool true) := hp 21 _ 384 rfl rfl (by kernel_rfl)
            clear hfr hp
            simp only [gv_true, gv_false, Bool.not_false, Bool.not_true, Bool.and_true, Bool.true_and] at g384
            go_simp
            exact hK _ _ rfl hG (Below.refl _ _)
          · refine StepAt.guarded 22 385 true _ rfl rfl rfl (by decide) (by kernel_rfl) (true) (by intro w v h; (have h : v = gv (true) (.bool true) := h); rw [h]; (simp [gv, undef])) (by intro h w; show undef = gv (true) _; rw [h]; rfl) ?_
            intro hc f w' hG hfr hp Kx hK
            have g20 : f 20 = .slice (some ⟨g, 0, none⟩) al gc := hfr 20 (by kernel_rfl)
            clear hfr hp
            go_simp
            exact hK _ _ rfl hG (Below.refl _ _)
          · refine StepAt.guarded 22 385 true _ rfl rfl rfl (by decide) (by kernel_rfl) (true) (by intro w v h; (have h : v = gv (true) (.bool true) := h); rw [h]; (simp [gv, undef])) (by intro h w; show undef = gv (true) _; rw [h]; rfl) ?_
            intro hc f w' hG hfr hp Kx hK
            have g21 : f 21 = .int .i64 ((jp : Int) + 1) := hfr 21 (by kernel_rfl)
            clear hfr hp
            go_simp
            exact hK _ _ rfl hG (Below.refl _ _)
          · refine StepAt.guarded 22 385 true _ rfl rfl rfl (by decide) (by kernel_rfl) (true) (by intro w v h; (have h : v = gv (true) (.bool true) := h); rw [h]; (simp [gv, undef])) (by intro h w; show undef = gv (true) _; rw [h]; rfl) ?_
            intro hc f w' hG hfr hp Kx hK
            have g387 : f 387 = gv (true) (.int .i64 ((jp : Int) + 1)) := hp 24 _ 387 rfl rfl (by kernel_rfl)
            clear hfr hp
            simp only [gv_true, gv_false, Bool.not_false, Bool.not_true, Bool.and_true, Bool.true_and] at g387
            have hwr : IntKind.i64.wrap ((jp : Int) + 1 - 1) = (jp : Int) := by rw [show (jp : Int) + 1 - 1 = (jp : Int) by omega]; exact IntWalk.i64_in _ (by omega)
            have hwr2 : IntKind.i64.wrap (jp : Int) = (jp : Int) := IntWalk.i64_in _ (by omega)
            go_simp
            exact hK _ _ rfl hG (Below.refl _ _)
          · refine StepAt.guarded 22 385 true _ rfl rfl rfl (by decide) (by kernel_rfl) (true) (by intro w v h; (have h : v = gv (true) (.bool true) := h); rw [h]; (simp [gv, undef])) (by intro h w; show undef = gv (true) _; rw [h]; rfl) ?_
            intro hc f w' hG hfr hp Kx hK
            have g386 : f 386 = gv (true) (.slice (some ⟨g, 0, none⟩) al gc) := hp 23 _ 386 rfl rfl (by kernel_rfl)
            have g388 : f 388 = gv (true) (.int .i64 (jp : Int)) := hp 25 _ 388 rfl rfl (by kernel_rfl)
            clear hfr hp
            simp only [gv_true, gv_false, Bool.not_false, Bool.not_true, Bool.and_true, Bool.true_and] at g386 g388
            have hil : (jp : Int) < (al : Int) := by omega
            go_simp
            exact hK _ _ rfl hG (Below.refl _ _)
          · refine StepAt.guarded 22 385 true _ rfl rfl rfl (by decide) (by kernel_rfl) (true) (by intro w v h; (have h : v = gv (true) (.bool true) := h); rw [h]; (simp [gv, undef])) (by intro h w; show undef = gv (true) _; rw [h]; rfl) ?_
            intro hc f w' hG hfr hp Kx hK
            have g389 : f 389 = gv (true) (.pointer (some ⟨g, jp * 4, none⟩)) := hp 26 _ 389 rfl rfl (by kernel_rfl)
            clear hfr hp
            simp only [gv_true, gv_false, Bool.not_false, Bool.not_true, Bool.and_true, Bool.true_and] at g389
            go_simp
            exact hK _ _ rfl hG (Below.refl _ _)
          · refine StepAt.guarded 22 385 true _ rfl rfl rfl (by decide) (by kernel_rfl) (true) (by intro w v h; (have h : v = gv (true) (.bool true) := h); rw [h]; (simp [gv, undef])) (by intro h w; show undef = gv (true) _; rw [h]; rfl) ?_
            intro hc f w' hG hfr hp Kx hK
            have g390 : f 390 = gv (true) (.pointer (some ⟨g, jp * 4 + 1, none⟩)) := hp 27 _ 390 rfl rfl (by kernel_rfl)
            clear hfr hp
            simp only [gv_true, gv_false, Bool.not_false, Bool.not_true, Bool.and_true, Bool.true_and] at g390
            obtain ⟨d0, d1⟩ := HCP.out _ hG
            go_simp
            exact hK _ _ rfl hG (Below.refl _ _)
          · refine StepAt.guarded 22 385 true _ rfl rfl rfl (by decide) (by kernel_rfl) (true) (by intro w v h; (have h : v = gv (true) (.bool true) := h); rw [h]; (simp [gv, undef])) (by intro h w; show undef = gv (true) _; rw [h]; rfl) ?_
            intro hc f w' hG hfr hp Kx hK
            have g22 : f 22 = .pointer (some ⟨XB, 0, none⟩) := hfr 22 (by kernel_rfl)
            clear hfr hp
            go_simp
            exact hK _ _ rfl hG (Below.refl _ _)
          · refine StepAt.guarded 22 385 true _ rfl rfl rfl (by decide) (by kernel_rfl) (true) (by intro w v h; (have h : v = gv (true) (.bool true) := h); rw [h]; (simp [gv, undef])) (by intro h w; show undef = gv (true) _; rw [h]; rfl) ?_
            intro hc f w' hG hfr hp Kx hK
            have g392 : f 392 = gv (true) (.pointer (some ⟨XB, 1, none⟩)) := hp 29 _ 392 rfl rfl (by kernel_rfl)
            clear hfr hp
            simp only [gv_true, gv_false, Bool.not_false, Bool.not_true, Bool.and_true, Bool.true_and] at g392
            obtain ⟨x0, x1⟩ := HCX.out _ hG
            go_simp
            exact hK _ _ rfl hG (Below.refl _ _)
          · refine StepAt.guarded 22 385 true _ rfl rfl rfl (by decide) (by kernel_rfl) (true) (by intro w v h; (have h : v = gv (true) (.bool true) := h); rw [h]; (simp [gv, undef])) (by intro h w; show undef = gv (true) _; rw [h]; rfl) ?_
            intro hc f w' hG hfr hp Kx hK
            have g391 : f 391 = gv (true) (.int .i64 pn) := hp 28 _ 391 rfl rfl (by kernel_rfl)
            have g393 : f 393 = gv (true) (.int .i64 kn) := hp 30 _ 393 rfl rfl (by kernel_rfl)
            clear hfr hp
            simp only [gv_true, gv_false, Bool.not_false, Bool.not_true, Bool.and_true, Bool.true_and] at g391 g393
            have hge : decide (kn ≤ pn) = false := decide_eq_false (by omega)
            go_simp
            exact hK _ _ rfl hG (Below.refl _ _)
          · refine StepAt.guarded 12 375 false _ rfl rfl rfl (by decide) (by kernel_rfl) (true) (by intro w v h; (have h : v = gv (true) (.bool false) := h); rw [h]; (simp [gv, undef])) (by intro h w; show undef = gv (true) _; rw [h]; rfl) ?_
            intro hc f w' hG hfr hp Kx hK
            have g385 : f 385 = gv (true) (.bool true) := hp 22 _ 385 rfl rfl (by kernel_rfl)
            have g394 : f 394 = gv (true) (.bool false) := hp 31 _ 394 rfl rfl (by kernel_rfl)
            clear hfr hp
            simp only [gv_true, gv_false, Bool.not_false, Bool.not_true, Bool.and_true, Bool.true_and] at g385 g394
            go_simp
            exact hK _ _ rfl hG (Below.refl _ _)
          · refine StepAt.guarded 2 365 true _ rfl rfl rfl (by decide) (by kernel_rfl) (true) (by intro w v h; (have h : v = .bool true := h); rw [h]; (simp [gv, undef])) (by intro h w; show undef = gv (true) _; rw [h]; rfl) ?_
            intro hc f w' hG hfr hp Kx hK
            have g375 : f 375 = gv (true) (.bool false) := hp 12 _ 375 rfl rfl (by kernel_rfl)
            have g395 : f 395 = gv (true) (.bool false) := hp 32 _ 395 rfl rfl (by kernel_rfl)
            clear hfr hp
            simp only [gv_true, gv_false, Bool.not_false, Bool.not_true, Bool.and_true, Bool.true_and] at g375 g395
            go_simp
            exact hK _ _ rfl hG (Below.refl _ _)
          · refine StepAt.plain rfl ?_
            intro f w' hG hfr hp Kx hK
            have g365 : f 365 = .bool true := hp 2 _ 365 rfl rfl (by kernel_rfl)
            have g396 : f 396 = gv (true) (.bool false) := hp 33 _ 396 rfl rfl (by kernel_rfl)
            clear hfr hp
            simp only [gv_true, gv_false] at g396
            go_simp
            exact hK _ _ rfl hG (Below.refl _ _)
        · intro fy wy hG hfr hR
          have g397 : fy 397 = .bool false := hR 34 _ 397 rfl rfl
          have q0 := hfr 0 (by kernel_rfl)
          have q3 := hfr 3 (by kernel_rfl)
          have q5 := hfr 5 (by kernel_rfl)
          have q20 := hfr 20 (by kernel_rfl)
          have q36 := hfr 36 (by kernel_rfl)
          have q37 := hfr 37 (by kernel_rfl)
          have q38 := hfr 38 (by kernel_rfl)
          have q299 := hfr 299 (by kernel_rfl)
          have q300 := hfr 300 (by kernel_rfl)
          have q301 := hfr 301 (by kernel_rfl)
          have HG8 := Lib.hid hG
          clear hfr hR hG
          change fy 397 = _ at g397
          rw [fr_lit400 fy, q0, q3, q5, q20, q36, q37, q38, q299, q300, q301, g397]
          go_wp2_with fail
          refine ⟨⟨_, jp + 1 + 1, lit_fr400 _ rfl, rfl, rfl, rfl, rfl, rfl, rfl, rfl, rfl, rfl, by go_num, by omega, HB8.out.trans (HG8.out.mono HB8.out.size)⟩, ?_⟩
          exact HM.out _ _ (by go_num) hlt
end Go.Proofs.YtmhojpipmllphaaGreatDoor

