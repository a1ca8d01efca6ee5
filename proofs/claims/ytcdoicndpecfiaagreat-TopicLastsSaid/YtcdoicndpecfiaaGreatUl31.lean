/-
  Part 31: what the statement needs of these texts: ULst.
-/
import Derived.BigQuiet
import Derived.ChangeSame
import Derived.Deep.AppendLies
import Derived.Deep.AppendSrc
import Derived.Deep.DeepCutAuto
import Derived.Deep.DeepMust
import Derived.Deep.Grids
import Derived.Deep.OwnRows
import Derived.Deep.QuietTactic
import Derived.Deep.RegionHeld3
import Derived.Deep.RegionLaw
import Derived.IntWalk
import Derived.Laws.BitsAllLaws
import Derived.Laws.CopyOwn
import Derived.Laws.OwnMore
import Derived.Laws.PanicsMore
import Derived.Laws.Rows
import Derived.Laws.StructEq
import Derived.Lib.AppendStr
import Derived.Lib.AppendZerosOnto
import Derived.Lib.BufferRead
import Derived.Lib.BufferWrite
import Derived.Lib.Hide
import Derived.Lib.OthersKept
import Derived.Lib.SmallJoins
import Derived.Maps.AppendAt
import Derived.Maps.OwnSet
import Derived.Maps.RangeWalk
import Derived.OpenShut
import Derived.Orders
import Derived.ProofKit
import Derived.Shelf.SlSortCmp.NoneTotal
import Derived.Shelf.Small.Wraps
import Derived.Shelf.Strings.Prefix
import Derived.SliceStrings
import Derived.Sort.OwnSorted
import Derived.StillTailTactics
import Derived.StringKeys
import Derived.Test.YtcdoicndpecfiaaGreatProg
import Derived.Test.YtcdoicndpecfiaaGreatRows
import Derived.WalkKit
import Derived.WalkLawsBesides
import Derived.WalkSmall
import Derived.WalkSpells
import Derived.Test.YtcdoicndpecfiaaGreatUl1
import Derived.Test.YtcdoicndpecfiaaGreatUl2
import Derived.Test.YtcdoicndpecfiaaGreatUl3
import Derived.Test.YtcdoicndpecfiaaGreatUl4
import Derived.Test.YtcdoicndpecfiaaGreatUl5
import Derived.Test.YtcdoicndpecfiaaGreatUl6
import Derived.Test.YtcdoicndpecfiaaGreatUl7
import Derived.Test.YtcdoicndpecfiaaGreatUl8
import Derived.Test.YtcdoicndpecfiaaGreatUl9
import Derived.Test.YtcdoicndpecfiaaGreatUl10
import Derived.Test.YtcdoicndpecfiaaGreatUl11
import Derived.Test.YtcdoicndpecfiaaGreatUl12
import Derived.Test.YtcdoicndpecfiaaGreatUl13
import Derived.Test.YtcdoicndpecfiaaGreatUl14
import Derived.Test.YtcdoicndpecfiaaGreatUl15
import Derived.Test.YtcdoicndpecfiaaGreatUl16
import Derived.Test.YtcdoicndpecfiaaGreatUl17
import Derived.Test.YtcdoicndpecfiaaGreatUl18
import Derived.Test.YtcdoicndpecfiaaGreatUl19
import Derived.Test.YtcdoicndpecfiaaGreatUl20
import Derived.Test.YtcdoicndpecfiaaGreatUl21
import Derived.Test.YtcdoicndpecfiaaGreatUl22
import Derived.Test.YtcdoicndpecfiaaGreatUl23
import Derived.Test.YtcdoicndpecfiaaGreatUl24
import Derived.Test.YtcdoicndpecfiaaGreatUl25
import Derived.Test.YtcdoicndpecfiaaGreatUl26
import Derived.Test.YtcdoicndpecfiaaGreatUl27
import Derived.Test.YtcdoicndpecfiaaGreatUl28
import Derived.Test.YtcdoicndpecfiaaGreatUl29
import Derived.Test.YtcdoicndpecfiaaGreatUl30
namespace Go.Proofs.YtcdoicndpecfiaaGreat
open Go.RowKit Go.Deep
open Go.ChangeShapes Go.WideShapes
set_option linter.unusedVariables false
set_option linter.unusedSimpArgs false
section
variable {H : Type} {enc : TypeId × Value → H} {W : World}
theorem ubools2_open {n : Nat} {v : Value} {y : DataW H × List MemPlace} (h : DataW.trod enc Tryz.prog W 0 (fun _ => true) true n 23 [v] = some y) : ∃ zs, BoolsOf W v zs ∧ zs.length ≤ maxLen := by
  obtain ⟨zs, a, b, _⟩ := ubools_open h
  exact ⟨zs, a, b⟩
end
theorem ubools_b {w w' : World} {v : Value} {bs : List Bool} (h : BoolsOf w v bs) (hb : Below w.heap.size w w') : BoolsOf w' v bs := by
  obtain ⟨a, cap, e, h⟩ := h
  refine ⟨a, cap, e, h.imp (fun h => h) ?_⟩
  rintro ⟨b, o, e2, h⟩
  exact ⟨b, o, e2, fun i hi => (World.cell?_of_block (hb.block b (World.block_lt_of_cell? _ _ (h i hi)))).trans (h i hi)⟩
/-- What stays true in the law's loop. -/
structure LaI (w0 w : World) (g : Gh) (st : St) (tb : Nat) (v : Value) (l : TL) (n : Nat) : Prop where
  tab : NewI w0 w g st tb v l
  good : Good n st
  saved : SavedT st l
  ok : TOk l
theorem LaI.new {w0 w w' : World} {g : Gh} {st : St} {tb : Nat} {v : Value} {l : TL} {n : Nat} (h : LaI w0 w g st tb v l n) (hc : Chg (fun _ => False) w w') : LaI w0 w' g st tb v l n := ⟨h.tab.new hc, h.good, h.saved, h.ok⟩
theorem LaI.add {w0 w : World} {g : Gh} {st : St} {tb : Nat} {v : Value} {l : TL} {n : Nat} (h : LaI w0 w g st tb v l n) (hn : n ≤ 1000) (nm : ByteArray) (q : Int) (hm : nm.size ≤ 1000) :
    Calls Tryz.prog 8 #[.pointer (some ⟨tb, 0, none⟩), .string nm, .int .i64 q] w fun e w' => ∃ k, e = .returned (.int .i64 k) ∧ ∃ g' st' v' l', LaI w0 w' g' st' tb v' l' (n + 2) ∧ g'.d = g.d := by
  have hl := h.ok.len
  refine (add_any_t nm q h.tab.tab h.good (by omega) (by omega) hm h.ok.sizes).mono ?_
  rintro e w' ⟨he, g', v', h1, h2⟩
  obtain ⟨a, b⟩ := h.saved.add h.ok nm q
  exact ⟨_, he, g', _, v', _, ⟨h.tab.to h1 h2, addS_good h.good _ _ _, a, b⟩, h2.d⟩
theorem LaI.fuse {w0 w : World} {g : Gh} {st : St} {tb : Nat} {v : Value} {l : TL} {n : Nat} (h : LaI w0 w g st tb v l n) (k : Int) (hk : k ≤ 9223372036854775807) :
    Calls Tryz.prog 7 #[.pointer (some ⟨g.d, 0, none⟩), .int .i64 k] w fun e w' => e = .returned (.tuple #[]) ∧ ∃ g' st', LaI w0 w' g' st' tb v l n ∧ g'.d = g.d ∧ Chg (· ∈ g.fp) w w' := by
  refine (fuse_any g st k w h.tab.tab.disk).mono ?_
  rintro e w' ⟨he, hd, ht⟩
  obtain ⟨a, b⟩ := h.tab.tab.on hd ht
  exact ⟨he, g, _, ⟨h.tab.to a b, h.good.fuseS k hk, h.saved, h.ok⟩, rfl, ht.chg⟩
theorem LaI.crash {w0 w : World} {g : Gh} {st : St} {tb : Nat} {v : Value} {l : TL} {n : Nat} (h : LaI w0 w g st tb v l n) (hn : n ≤ 1000) (vk : Value) (bs : List Bool) (lack : Int) (hvb : BoolsOf w vk bs) (hbs : bs.length ≤ 1000) :
    Calls Tryz.prog 10 #[.pointer (some ⟨g.d, 0, none⟩), .agg #[vk, .int .i64 lack]] w fun e w' => e = .returned (.tuple #[]) ∧ ∃ g' st', LaI w0 w' g' st' tb v l n ∧ st'.down = false ∧ g'.d = g.d ∧ Chg (· ∈ g.fp) w w' := by
  refine (crash_any g st vk bs lack w h.tab.tab.disk hvb (h.good.waits (by omega)) (by omega) (h.good.allIn (by omega)) (fun l hp _ => by
    have h1 := (h.good.crash bs lack h.tab.tab.disk hp).size
    have h2 : (crashS st (imgs (g.es.map skel) (cutLast (keepL l bs) lack))).cap = st.cap := rfl
    have h3 := h.good.cap
    rw [h2] at h1
    exact Nat.le_trans h1 (by omega))).mono ?_
  rintro e w' ⟨he, ls, g', hp, _, hd, ht⟩
  obtain ⟨a, b⟩ := h.tab.tab.on hd ht
  refine ⟨he, g', _, ⟨h.tab.to a b, h.good.crash bs lack h.tab.tab.disk hp, ?_, h.ok⟩, rfl, ht.d, ht.chg⟩
  rcases h.saved with ⟨e1, e2⟩ | ⟨F, f1, f2, f3⟩
  · refine .inl ⟨e1, ?_⟩
    have hn2 := find_none_names e2
    have hnames : (crashS st (imgs (g.es.map skel) (cutLast (keepL ls bs) lack))).fs.map (·.1) = st.fs.map (·.1) := by
      show ((imgs (g.es.map skel) (cutLast (keepL ls bs) lack)).map fun p => (p.1, loseF p.2.2)).map (·.1) = _
      rw [List.map_map]
      exact sk_names h.tab.tab.disk _
    unfold St.find
    rw [Option.map_eq_none_iff, List.find?_eq_none]
    intro p hp2
    have h1 : p.1 ∈ st.fs.map (·.1) := by rw [← hnames]; exact List.mem_map_of_mem hp2
    have : p.1 ≠ topF := fun e => hn2 (e ▸ h1)
    simp [this]
  · exact .inr ⟨F, crash_find bs lack h.tab.tab.disk h.good hp f1 f3, f2, f3⟩
set_option maxRecDepth 100000 in
set_option maxHeartbeats 8000000 in
theorem walk_TopicLasts (v : Value) (os : TL) (fu : Int) (vk : Value) (bs : List Bool) (lack : Int) (w : World) (hv : OpTs w v os) (hol : os.length ≤ maxLen) (_ : True) (hfu : (Lit.int .i64 fu).wf = true) (hvb : BoolsOf w vk bs) (hbl : bs.length ≤ maxLen) :
    Calls Tryz.prog 3 #[v, .int .i64 fu, .agg #[vk, .int .i64 lack]] w fun e w' => e = .returned (.bool true) ∧ Below w.heap.size w w' := by
  obtain ⟨a, cap, rfl⟩ : ∃ a cap, v = .slice a os.length cap := by obtain ⟨a, c, e, _⟩ := hv; exact ⟨a, c, e⟩
  obtain ⟨ab, capb, hbf⟩ : ∃ ab capb, vk = .slice ab bs.length capb := by obtain ⟨a', c', e, _⟩ := hvb; exact ⟨a', c', e⟩
  have hfu2 : fu ≤ 9223372036854775807 := by
    have h2 : IntKind.i64.min ≤ fu ∧ fu ≤ IntKind.i64.max := by simpa [Lit.wf] using hfu
    have h3 : IntKind.i64.max = 9223372036854775807 := rfl
    omega
  subst hbf
  obtain ⟨n, hn⟩ : ∃ n, n = os.length := ⟨_, rfl⟩
  obtain ⟨m, hm⟩ : ∃ m, m = bs.length := ⟨_, rfl⟩
  rw [← hn] at hv hol ⊢
  rw [← hm] at hvb hbl ⊢
  obtain ⟨w0, hw0⟩ : ∃ w0, w0 = w.alloc (.cells #[.slice ab m capb, .int .i64 lack] 25) := ⟨_, rfl⟩
  obtain ⟨pb, hpb⟩ : ∃ pb, pb = w.heap.size := ⟨_, rfl⟩
  have hb0 : Below w.heap.size w w0 := by rw [hw0]; exact (Below.refl _ _).alloc (Nat.le_refl _) _
  have d0 : w0.cell? ⟨pb, 0, none⟩ = some (.slice ab m capb) := by rw [hw0, hpb]; simp [go_sem]
  have d1 : w0.cell? ⟨pb, 1, none⟩ = some (.int .i64 lack) := by rw [hw0, hpb]; simp [go_sem]
  have HD : Hid (∀ W, Below w0.heap.size w0 W → W.cell? ⟨pb, 0, none⟩ = some (.slice ab m capb) ∧ W.cell? ⟨pb, 1, none⟩ = some (.int .i64 lack)) := Lib.hid (fun W hW => ⟨ukeep hW d0, ukeep hW d1⟩)
  have HV : Hid (∀ W, Below w0.heap.size w0 W → OpTs W (.slice a n cap) os) := Lib.hid (fun W hW => (hv.below hb0).below hW)
  have HVB : Hid (∀ W, Below w0.heap.size w0 W → BoolsOf W (.slice ab m capb) bs) := Lib.hid (fun W hW => ubools_b (ubools_b hvb hb0) hW)
  have HB0 := Lib.hid hb0
  have HW0 := Lib.hid hw0
  have HPB := Lib.hid hpb
  have HN := Lib.hid hn
  have HM := Lib.hid hm
  have HFU := Lib.hid hfu2
  have hn64 : (n : Int) ≤ 9223372036854775807 := by unfold maxLen at hol; omega
  have hm64 : (m : Int) ≤ 9223372036854775807 := by unfold maxLen at hbl; omega
  clear hv hvb hb0 hw0 hpb hn hm hfu hfu2 d1 hol hbl
  have hfin : ∀ W, Below w0.heap.size w0 W → Below w.heap.size w W := fun W hW => HB0.out.trans (hW.mono HB0.out.size)
  have HFIN := Lib.hid hfin
  clear hfin
  by_cases h20 : 20 < n
  · have h20' : (20 : Int) < (n : Int) := by omega
    clear h20
    go_enter Tryz.func3, Tryz.ntmps3
    go_upto_region 1 with fail
    rw [← HW0.out, ← HPB.out]
    go_wp2_with fail
    refine (awake_u w0).mono ?_
    rintro e w1 ⟨rfl, hb1⟩
    have HB1 := Lib.hid hb1
    clear hb1
    go_wp2_with fail
    go_ret
    exact ⟨rfl, HFIN.out _ HB1.out⟩
  · have h20' : ¬ (20 : Int) < (n : Int) := by omega
    have hn20 : n ≤ 20 := by omega
    clear h20
    by_cases h100 : 100 < m
    · have h100' : (100 : Int) < (m : Int) := by omega
      clear h100
      go_enter Tryz.func3, Tryz.ntmps3
      go_upto_region 1 with fail
      rw [← HW0.out, ← HPB.out]
      go_wp2_with fail
      refine (awake_u w0).mono ?_
      rintro e w1 ⟨rfl, hb1⟩
      obtain ⟨k0, k1⟩ := HD.out w1 hb1
      have HB1 := Lib.hid hb1
      clear hb1 d0
      go_wp2_with fail
      go_ret
      exact ⟨rfl, HFIN.out _ HB1.out⟩
    · have h100' : ¬ (100 : Int) < (m : Int) := by omega
      have hbs : bs.length ≤ 1000 := by rw [← HM.out]; omega
      have HBL := Lib.hid hbs
      clear h100 hbs
      go_enter Tryz.func3, Tryz.ntmps3
      go_upto_region 1 with fail
      rw [← HW0.out, ← HPB.out]
      go_wp2_with fail
      refine (awake_u w0).mono ?_
      rintro e w1 ⟨rfl, hb1⟩
      obtain ⟨k0, k1⟩ := HD.out w1 hb1
      have HB1 := Lib.hid hb1
      clear hb1 d0
      go_wp2_with fail
      refine (new_any 10000 w1).mono ?_
      rintro e w2 ⟨rfl, hd2, hb2⟩
      obtain ⟨d, hd⟩ : ∃ d, d = w1.heap.size := ⟨_, rfl⟩
      have hc2 : Chg (fun _ => False) w0 w2 := (Chg.of_below HB1.out).trans (Chg.of_below hb2) (fun _ _ e => e)
      have a0 := Alone.new 10000 (by decide) (by decide)
      have hO := open_alone (w0 := w0) (g := ⟨w1.heap.size, none, []⟩) hd2 hc2 (fun k hk => by have := HB1.out.size; simp [Gh.fp] at hk; omega) a0.saved a0.ok rfl
      have HO := Lib.hid hO
      have HDD := Lib.hid hd
      have hg0 := a0.ease.good
      have HA0 := Lib.hid a0
      clear hd2 hb2 hc2 a0 hO k0 k1 hd hg0
      go_wp2_with fail
      rw [← HDD.out] at HO
      rw [← HDD.out]
      refine HO.out.mono ?_
      rintro e w3 ⟨_, tb, v3, rfl, _, _, h3⟩
      have HI3 : Hid (LaI w0 w3 ⟨d, none, []⟩ (newSt 10000) tb v3 [] 0) := Lib.hid ⟨h3, HA0.out.ease.good, HA0.out.saved, HA0.out.ok⟩
      clear h3
      go_wp2_with fail
      go_loopw [38] (fun i wr => ∃ k : Nat, k ≤ n ∧ i = .int .i64 (k : Int) ∧ ∃ g st v' l, Hid (LaI w0 wr g st tb v' l (2 * k)) ∧ Hid (g.d = d)) (fun i _ => n - (intOf i).toNat)
      case atStart => exact ⟨0, Nat.zero_le _, rfl, _, _, v3, [], HI3, Lib.hid rfl⟩
      case round =>
        obtain ⟨k, hk, rfl, g, st, v', l, HI, HG⟩ := hrel
        by_cases hlt : k < n
        · obtain ⟨x, hx⟩ : ∃ x, os[k]? = some x := ⟨_, List.getElem?_eq_getElem (by rw [← HN.out]; exact hlt)⟩
          obtain ⟨b, o, hbo, c0, c1⟩ := (HV.out wr HI.out.tab.below).at_ hx
          obtain ⟨x1, x2⟩ := x
          simp only at c0 c1
          subst hbo
          clear hx
          obtain ⟨w5, hw5⟩ : ∃ w5, w5 = wr.alloc (.cells #[.string x1, .int .i64 x2] 34) := ⟨_, rfl⟩
          obtain ⟨eb, heb⟩ : ∃ eb, eb = wr.heap.size := ⟨_, rfl⟩
          have hb5 : Below wr.heap.size wr w5 := by rw [hw5]; exact (Below.refl _ _).alloc (Nat.le_refl _) _
          have e0 : w5.cell? ⟨eb, 0, none⟩ = some (.string x1) := by rw [hw5, heb]; simp [go_sem]
          have e1 : w5.cell? ⟨eb, 1, none⟩ = some (.int .i64 x2) := by rw [hw5, heb]; simp [go_sem]
          have HI5 := Lib.hid (HI.out.new (Chg.of_below hb5))
          have HW5 := Lib.hid hw5
          have HEB := Lib.hid heb
          clear hw5 heb hb5
          by_cases hbig : 100 < x1.size
          · have hbig' : (100 : Int) < (x1.size : Int) := by omega
            clear hbig
            go_upto_region 12 with fail
            rw [← HW5.out, ← HEB.out]
            go_wp2_with fail
            go_ret
            exact ⟨rfl, HFIN.out _ HI5.out.tab.below⟩
          · have hbig' : ¬ (100 : Int) < (x1.size : Int) := by omega
            have hx1 : x1.size ≤ 1000 := by omega
            clear hbig
            have HAD : Hid (∀ W g st v' l, LaI w0 W g st tb v' l (2 * k) → Calls Tryz.prog 8 #[.pointer (some ⟨tb, 0, none⟩), .string x1, .int .i64 x2] W fun e w' => ∃ r, e = .returned (.int .i64 r) ∧ ∃ g' st' v' l', LaI w0 w' g' st' tb v' l' (2 * k + 2) ∧ g'.d = g.d) := Lib.hid (fun W g st v' l hi => hi.add (by omega) x1 x2 hx1)
            by_cases hlast : k + 1 = n
            · have hl2 : ((k : Int) == (n : Int) - 1) = true := by simp; omega
              have HF := Lib.hid (HI5.out.fuse fu HFU.out)
              rw [HG.out] at HF
              have HE : Hid (∀ W, Chg (· ∈ g.fp) w5 W → W.cell? ⟨eb, 0, none⟩ = some (.string x1) ∧ W.cell? ⟨eb, 1, none⟩ = some (.int .i64 x2)) := Lib.hid (fun W hW => by
                have hnot : eb ∉ g.fp := fun hx => by have := HI.out.tab.tab.disk.lt _ hx; have := HEB.out; omega
                exact ⟨hW.cell e0 hnot, hW.cell e1 hnot⟩)
              have HKN := Lib.hid hlast
              clear hlast
              go_upto_region 12 with fail
              rw [← HW5.out, ← HEB.out]
              go_wp2_with fail
              refine HF.out.mono ?_
              rintro e w6 ⟨rfl, g6, st6, h6, hd6, hc6⟩
              obtain ⟨f0, f1⟩ := HE.out w6 hc6
              have HA6 := Lib.hid (HAD.out w6 g6 st6 v' l h6)
              have HG6 := Lib.hid hd6
              clear h6 hd6 hc6 e0 e1
              go_wp2_with fail
              refine HA6.out.mono ?_
              rintro e w7 ⟨r7, rfl, g7, st7, v7, l7, h7, hd7⟩
              have HI7 := Lib.hid h7
              have HG7 := Lib.hid (hd7.trans HG6.out)
              clear h7 hd7
              go_wp2_with fail
              exact ⟨⟨k + 1, by omega, by go_num, g7, st7, v7, l7, HI7, HG7⟩, by simp [intOf]; omega⟩
            · have hl2 : ((k : Int) == (n : Int) - 1) = false := by simp; omega
              have HA5 := Lib.hid (HAD.out w5 g st v' l HI5.out)
              clear hlast
              go_upto_region 12 with fail
              rw [← HW5.out, ← HEB.out]
              go_wp2_with fail
              refine HA5.out.mono ?_
              rintro e w6 ⟨r6, rfl, g6, st6, v6, l6, h6, hd6⟩
              have HI6 := Lib.hid h6
              have HG6 := Lib.hid (hd6.trans HG.out)
              clear h6 hd6
              go_wp2_with fail
              exact ⟨⟨k + 1, by omega, by go_num, g6, st6, v6, l6, HI6, HG6⟩, by simp [intOf]; omega⟩
        · have hkn : k = n := by omega
          obtain ⟨y0, y1⟩ := HD.out wr HI.out.tab.below
          have HAL := Lib.hid (all2_topics HI.out.tab.tab.head (by have := HI.out.ok.len; omega))
          obtain ⟨nl, hnl⟩ : ∃ nl, nl = l.length := ⟨_, rfl⟩
          have hnl6 : nl ≤ 6 := by rw [hnl]; exact HI.out.ok.len
          have HNL := Lib.hid hnl
          have hk20 : 2 * k ≤ 1000 := by omega
          clear hkn hnl
          go_wp2_with fail
          refine HAL.out.mono ?_
          rintro e w5 ⟨u, rfl, hu1, hu2, hu3⟩
          have HI5 := Lib.hid (HI.out.new (Chg.of_below hu2))
          obtain ⟨ua, uc, hu⟩ := hu1.len
          rw [← HNL.out] at hu
          have huS : ∀ q, u.ownBlock = some q → q ∉ g.fp := fun q hq hx => by
            have := HI.out.tab.tab.disk.lt _ hx
            have := hu3 q hq
            omega
          have z0 := ukeep hu2 y0
          have z1 := ukeep hu2 y1
          have HU1 := Lib.hid hu1
          have HUS := Lib.hid huS
          have HCR := Lib.hid (HI5.out.crash hk20 (.slice ab m capb) bs lack (HVB.out w5 HI5.out.tab.below) HBL.out)
          rw [HG.out] at HCR
          clear hu1 hu2 hu3 huS y0 y1
          subst hu
          go_wp2_with fail
          refine HCR.out.mono ?_
          rintro e w6 ⟨rfl, g6, st6, h6, hdn6, hd6, hc6⟩
          have HU6 := Lib.hid (HU1.out.chg hc6 (fun q hq hx => HUS.out q hq hx))
          have ho6 := open_alone (w0 := w0) h6.tab.tab.disk h6.tab.chg (fun k hk => h6.tab.low k (.inl hk)) h6.saved h6.ok hdn6
          rw [hd6] at ho6
          have HO6 := Lib.hid ho6
          have hok6 := h6.ok.len
          clear h6 hdn6 hd6 hc6 ho6 hok6
          go_wp2_with fail
          refine HO6.out.mono ?_
          rintro e w7 ⟨hb7, tb7, v7, rfl, _, _, h7⟩
          have HU7 := Lib.hid (HU6.out.new hb7)
          have HAL7 := Lib.hid (all2_topics h7.tab.head (by rw [← HNL.out]; omega))
          have H7 := Lib.hid h7
          clear hb7 h7
          go_wp2_with fail
          refine HAL7.out.mono ?_
          rintro e w8 ⟨r, rfl, hr1, hr2, hr3⟩
          obtain ⟨ra, rc, hr⟩ := hr1.len
          rw [← HNL.out] at hr
          have HU8 := Lib.hid (HU7.out.new hr2)
          have HR8 := Lib.hid hr1
          have H8 := Lib.hid (H7.out.new (Chg.of_below hr2))
          clear hr1 hr2 hr3
          subst hr
          have hle : decide ((nl : Int) + 1 < (nl : Int)) = false := decide_eq_false (by omega)
          go_wp2_with fail
          go_loopw [91] (fun i wr2 => ∃ j : Nat, j ≤ nl ∧ i = .int .i64 (j : Int) ∧ Hid (TRow wr2 (.slice ua nl uc) l) ∧ Hid (TRow wr2 (.slice ra nl rc) l) ∧ Hid (Below w0.heap.size w0 wr2)) (fun i _ => nl - (intOf i).toNat)
          case atStart => exact ⟨0, Nat.zero_le _, rfl, HU8, HR8, Lib.hid H8.out.below⟩
          case round =>
            obtain ⟨j, hj, rfl, HUq, HRq, HBq⟩ := hrel
            by_cases hjl : j < nl
            · obtain ⟨x, hx⟩ : ∃ x, l[j]? = some x := ⟨_, List.getElem?_eq_getElem (by rw [← HNL.out]; exact hjl)⟩
              obtain ⟨gu, rfl, cu0, cu1⟩ : ∃ gu, ua = some ⟨gu, 0, none⟩ ∧ wr.cell? ⟨gu, j * 2, none⟩ = some (.string x.1) ∧ wr.cell? ⟨gu, j * 2 + 1, none⟩ = some (.int .i64 x.2) := by
                rcases HUq.out.form with ⟨_, e⟩ | ⟨g, c, e, _, _, _, hc⟩
                · rw [e] at hx; cases hx
                · injection e with e1
                  exact ⟨g, e1, hc j x hx⟩
              obtain ⟨gr, rfl, cr0, cr1⟩ : ∃ gr, ra = some ⟨gr, 0, none⟩ ∧ wr.cell? ⟨gr, j * 2, none⟩ = some (.string x.1) ∧ wr.cell? ⟨gr, j * 2 + 1, none⟩ = some (.int .i64 x.2) := by
                rcases HRq.out.form with ⟨_, e⟩ | ⟨g, c, e, _, _, _, hc⟩
                · rw [e] at hx; cases hx
                · injection e with e1
                  exact ⟨g, e1, hc j x hx⟩
              obtain ⟨x1, x2⟩ := x
              try dsimp only at cu0 cu1 cr0 cr1
              have hjn : (j : Int) < (nl : Int) := by omega
              clear hx
              go_wp2_with fail
              go_quiet (fail)
              go_wp2_with fail
              exact ⟨⟨j + 1, by omega, by go_num, Lib.hid (HUq.out.chg ((Chg.refl (fun _ => False) _).drewN _) (fun _ _ e => e)), Lib.hid (HRq.out.chg ((Chg.refl (fun _ => False) _).drewN _) (fun _ _ e => e)), Lib.hid (below_drewN HBq.out _)⟩, by simp [intOf]; omega⟩
            · go_wp2_with fail
              go_ret
              exact ⟨rfl, HFIN.out _ HBq.out⟩
end Go.Proofs.YtcdoicndpecfiaaGreat

