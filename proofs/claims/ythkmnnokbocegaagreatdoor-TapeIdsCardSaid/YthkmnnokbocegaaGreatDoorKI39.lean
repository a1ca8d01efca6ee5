/-
  Part 39: what the statement needs of these texts: TMsgs, TIdsB.
-/
import Derived.BigQuiet
import Derived.BigRegion
import Derived.ChangeSame
import Derived.Deep.DeepCutAuto
import Derived.Deep.DeepMust
import Derived.Deep.Grids
import Derived.Deep.OwnRows
import Derived.Deep.QuietTactic
import Derived.Deep.RegionHeld3
import Derived.Deep.RegionLaw
import Derived.Deep.RegionWith
import Derived.Defers
import Derived.IntWalk
import Derived.Laws.BitsAllLaws
import Derived.Laws.CopyOwn
import Derived.Laws.OwnMore
import Derived.Laws.PanicsMore
import Derived.Laws.RangeAny
import Derived.Laws.Rows
import Derived.Laws.StructEq
import Derived.Lib.AppendStr
import Derived.Lib.AppendZerosOnto
import Derived.Lib.Atoi
import Derived.Lib.AtoiErrMem
import Derived.Lib.BufferRead
import Derived.Lib.BufferWrite
import Derived.Lib.Hide
import Derived.Lib.ItoaNum
import Derived.Lib.LaidTab
import Derived.Lib.OthersKept
import Derived.Lib.Repeat
import Derived.Lib.SliceRun
import Derived.Lib.SmallJoins
import Derived.Maps.AppendAt
import Derived.Maps.OwnSet
import Derived.Maps.RangeWalk
import Derived.Orders
import Derived.ProofKit
import Derived.Recover
import Derived.RowKit
import Derived.Shelf.GgClosure.StringsIndexFunc
import Derived.Shelf.GgClosure.StringsIndexFuncTop
import Derived.Shelf.LaysM
import Derived.Shelf.SlSortCmp.NoneTotal
import Derived.Shelf.Slices.Clone
import Derived.Shelf.Slices.In.SortNone
import Derived.Shelf.Slices.SearchI
import Derived.Shelf.Slices.Turned
import Derived.Shelf.Small.Wraps
import Derived.Shelf.Sort.Plain
import Derived.Shelf.Strconv.Atoi
import Derived.Shelf.Strconv.Itoa3
import Derived.Shelf.Strings.Builder1
import Derived.Shelf.Strings.Prefix
import Derived.Shelf.Strings.Repeat
import Derived.SliceStrings
import Derived.Sort.KeysCollected
import Derived.Sort.OwnSorted
import Derived.StillTailTactics
import Derived.StringKeys
import Derived.Test.YthkmnnokbocegaaGreatDoorProg
import Derived.Test.YthkmnnokbocegaaGreatDoorRows
import Derived.WalkKit
import Derived.WalkLawsBesides
import Derived.WalkSmall
import Derived.WalkSpells
import Derived.Test.YthkmnnokbocegaaGreatDoorKI1
import Derived.Test.YthkmnnokbocegaaGreatDoorKI2
import Derived.Test.YthkmnnokbocegaaGreatDoorKI3
import Derived.Test.YthkmnnokbocegaaGreatDoorKI4
import Derived.Test.YthkmnnokbocegaaGreatDoorKI5
import Derived.Test.YthkmnnokbocegaaGreatDoorKI6
import Derived.Test.YthkmnnokbocegaaGreatDoorKI7
import Derived.Test.YthkmnnokbocegaaGreatDoorKI8
import Derived.Test.YthkmnnokbocegaaGreatDoorKI9
import Derived.Test.YthkmnnokbocegaaGreatDoorKI10
import Derived.Test.YthkmnnokbocegaaGreatDoorKI11
import Derived.Test.YthkmnnokbocegaaGreatDoorKI12
import Derived.Test.YthkmnnokbocegaaGreatDoorKI13
import Derived.Test.YthkmnnokbocegaaGreatDoorKI14
import Derived.Test.YthkmnnokbocegaaGreatDoorKI15
import Derived.Test.YthkmnnokbocegaaGreatDoorKI16
import Derived.Test.YthkmnnokbocegaaGreatDoorKI17
import Derived.Test.YthkmnnokbocegaaGreatDoorKI18
import Derived.Test.YthkmnnokbocegaaGreatDoorKI19
import Derived.Test.YthkmnnokbocegaaGreatDoorKI20
import Derived.Test.YthkmnnokbocegaaGreatDoorKI21
import Derived.Test.YthkmnnokbocegaaGreatDoorKI22
import Derived.Test.YthkmnnokbocegaaGreatDoorKI23
import Derived.Test.YthkmnnokbocegaaGreatDoorKI24
import Derived.Test.YthkmnnokbocegaaGreatDoorKI25
import Derived.Test.YthkmnnokbocegaaGreatDoorKI26
import Derived.Test.YthkmnnokbocegaaGreatDoorKI27
import Derived.Test.YthkmnnokbocegaaGreatDoorKI29
import Derived.Test.YthkmnnokbocegaaGreatDoorKI30
import Derived.Test.YthkmnnokbocegaaGreatDoorKI31
import Derived.Test.YthkmnnokbocegaaGreatDoorKI32
import Derived.Test.YthkmnnokbocegaaGreatDoorKI33
import Derived.Test.YthkmnnokbocegaaGreatDoorKI34
import Derived.Test.YthkmnnokbocegaaGreatDoorKI35
import Derived.Test.YthkmnnokbocegaaGreatDoorKI36
import Derived.Test.YthkmnnokbocegaaGreatDoorKI37
import Derived.Test.YthkmnnokbocegaaGreatDoorKI38
namespace Go.Proofs.YthkmnnokbocegaaGreatDoor
open Go.Joins Go.ChangeShapes Go.WideShapes Go.RowKit Go.Deep
set_option linter.unusedVariables false
set_option linter.unusedSimpArgs false

/-- A slice value reads as these records. -/
def MsgsAt (w : World) (v : Value) (ms : List (MsgM × Value)) : Prop :=
  ∃ a cap, v = .slice a ms.length cap ∧ (ms = [] ∨ ∃ b o, a = some ⟨b, o, none⟩ ∧ b < w.heap.size ∧ ∀ k p, ms[k]? = some p → ∀ i, i < 10 → w.cell? ⟨b, o + k * 10 + i, none⟩ = (p.1.cells p.2)[i]?)
theorem MsgsAt.form {w : World} {v : Value} {ms : List (MsgM × Value)} (h : MsgsAt w v ms) : ∃ a cap, v = .slice a ms.length cap := by
  obtain ⟨a, cap, e, _⟩ := h
  exact ⟨a, cap, e⟩
theorem MsgsAt.keep {w w' : World} {v : Value} {ms : List (MsgM × Value)} (h : MsgsAt w v ms) {S : Nat → Prop} (hc : Chg S w w') (hS : ∀ q, q < w.heap.size → ¬ S q) : MsgsAt w' v ms := by
  obtain ⟨a, cap, rfl, h⟩ := h
  refine ⟨a, cap, rfl, ?_⟩
  rcases h with h | ⟨b, o, rfl, hb, h⟩
  · exact .inl h
  · refine .inr ⟨b, o, rfl, Nat.lt_of_lt_of_le hb hc.size, fun k p hp i hi => ?_⟩
    rw [← h k p hp i hi]
    exact World.cell?_of_block (hc.block b hb (hS b hb))
set_option maxHeartbeats 4000000 in
set_option maxRecDepth 100000 in
theorem great_o (ms : List (MsgM × Value)) (b o n cap : Nat) (w : World) (hb : b < w.heap.size) (hn : n = ms.length) (hn2 : n ≤ 1000) (hs : ∀ p ∈ ms, Sized w p)
    (h : ∀ k p, ms[k]? = some p → ∀ i, i < 10 → w.cell? ⟨b, o + k * 10 + i, none⟩ = (p.1.cells p.2)[i]?) :
    Calls Tryz.prog 32 #[.slice (some ⟨b, o, none⟩) n cap] w (GreatTo ms w) := by
  have HB := Lib.hid hb
  have HN := Lib.hid hn
  have HS := Lib.hid hs
  have H := Lib.hid h
  clear hb hn hs h
  go_enter Tryz.func32, Tryz.ntmps32
  go_wp2_with fail
  go_loopw [9] (fun i wr => ∃ k : Nat, k ≤ n ∧ i = .int .i64 k ∧ (∀ j p, j < k → ms[j]? = some p → Fine p.1) ∧ Below w.heap.size w wr) (fun i _ => n - (intOf i).toNat)
  case atStart => exact ⟨0, Nat.zero_le _, rfl, fun _ _ h => absurd h (Nat.not_lt_zero _), Below.refl _ _⟩
  case round =>
    obtain ⟨k, hk, rfl, hfine, hbel⟩ := hrel
    have HF := Lib.hid hfine
    by_cases hlt : k < n
    · obtain ⟨p, hp⟩ : ∃ p, ms[k]? = some p := ⟨_, List.getElem?_eq_getElem (by rw [← HN.out]; exact hlt)⟩
      obtain ⟨⟨m1, m2, m3, m4, m5, m6, m7, m8, m9, m10⟩, va⟩ := p
      have hsz := HS.out _ (List.mem_of_getElem? hp)
      have hst := hsz.strs
      dsimp only at hst
      obtain ⟨ka, kc, hva⟩ := hst.form
      obtain ⟨kl, hkl⟩ : ∃ l, l = m10.length := ⟨_, rfl⟩
      rw [← hkl] at hva
      subst hva
      have key := H.out k _ hp
      have hlow : b < w.heap.size := HB.out
      have f0 : wr.cell? ⟨b, o + k * 10, none⟩ = some (.int .i64 m1) := (hbel.cell hlow).trans (by first | (simp [MsgM.cells]; done) | simpa [MsgM.cells] using key 0 (by decide))
      have f1 : wr.cell? ⟨b, o + k * 10 + 1, none⟩ = some (.int .i64 m2) := (hbel.cell hlow).trans (by first | (simp [MsgM.cells]; done) | simpa [MsgM.cells] using key 1 (by decide))
      have f2 : wr.cell? ⟨b, o + k * 10 + 1 + 1, none⟩ = some (.int .i64 m3) := (hbel.cell hlow).trans (by first | (simp [MsgM.cells]; done) | simpa [MsgM.cells] using key 2 (by decide))
      have f3 : wr.cell? ⟨b, o + k * 10 + 1 + 1 + 1, none⟩ = some (.int .i64 m4) := (hbel.cell hlow).trans (by first | (simp [MsgM.cells]; done) | simpa [MsgM.cells] using key 3 (by decide))
      have f4 : wr.cell? ⟨b, o + k * 10 + 1 + 1 + 1 + 1, none⟩ = some (.int .i64 m5) := (hbel.cell hlow).trans (by first | (simp [MsgM.cells]; done) | simpa [MsgM.cells] using key 4 (by decide))
      have f5 : wr.cell? ⟨b, o + k * 10 + 1 + 1 + 1 + 1 + 1, none⟩ = some (.int .i64 m6) := (hbel.cell hlow).trans (by first | (simp [MsgM.cells]; done) | simpa [MsgM.cells] using key 5 (by decide))
      have f6 : wr.cell? ⟨b, o + k * 10 + 1 + 1 + 1 + 1 + 1 + 1, none⟩ = some (.string m7) := (hbel.cell hlow).trans (by first | (simp [MsgM.cells]; done) | simpa [MsgM.cells] using key 6 (by decide))
      have f7 : wr.cell? ⟨b, o + k * 10 + 1 + 1 + 1 + 1 + 1 + 1 + 1, none⟩ = some (.string m8) := (hbel.cell hlow).trans (by first | (simp [MsgM.cells]; done) | simpa [MsgM.cells] using key 7 (by decide))
      have f8 : wr.cell? ⟨b, o + k * 10 + 1 + 1 + 1 + 1 + 1 + 1 + 1 + 1, none⟩ = some (.string m9) := (hbel.cell hlow).trans (by first | (simp [MsgM.cells]; done) | simpa [MsgM.cells] using key 8 (by decide))
      have f9 : wr.cell? ⟨b, o + k * 10 + 1 + 1 + 1 + 1 + 1 + 1 + 1 + 1 + 1, none⟩ = some (.slice ka kl kc) := (hbel.cell hlow).trans (by first | (simp [MsgM.cells]; done) | simpa [MsgM.cells] using key 9 (by decide))
      have HP := Lib.hid hp
      have HST := Lib.hid (hst.below hbel (Nat.le_refl _))
      have HBEL := Lib.hid hbel
      have HKL := Lib.hid hkl
      have q7 := hsz.topic
      have q8 := hsz.tag
      have q9 := hsz.body
      have q10 := hsz.many
      have HKS := Lib.hid hsz.keys
      dsimp only at q7 q8 q9 q10
      rw [← hkl] at q10
      unfold maxLen at q7 q8 q9 q10
      clear hfine key hsz hst hp hkl hbel hlow
      by_cases h1 : (2000 : Int) < m9.size
      case pos =>
        go_wp2_with fail
        go_ret
        exact ⟨true, rfl, (by intro h; cases h), below_alloc HBEL.out _⟩
      by_cases h2 : (100 : Int) < m7.size
      case pos =>
        go_wp2_with fail
        go_ret
        exact ⟨true, rfl, (by intro h; cases h), below_alloc HBEL.out _⟩
      by_cases h3 : (100 : Int) < m8.size
      case pos =>
        go_wp2_with fail
        go_ret
        exact ⟨true, rfl, (by intro h; cases h), below_alloc HBEL.out _⟩
      by_cases h4 : (10 : Int) < kl
      case pos =>
        go_wp2_with fail
        go_ret
        exact ⟨true, rfl, (by intro h; cases h), below_alloc HBEL.out _⟩
      go_wp2_with fail
      have HB2 := Lib.hid (below_alloc HBEL.out (.cells #[.int .i64 m1, .int .i64 m2, .int .i64 m3, .int .i64 m4, .int .i64 m5, .int .i64 m6, .string m7, .string m8, .string m9, .slice ka kl kc] 38))
      have HST2 := Lib.hid (HST.out.below ((Below.refl wr.heap.size wr).alloc (Nat.le_refl _) (.cells #[.int .i64 m1, .int .i64 m2, .int .i64 m3, .int .i64 m4, .int .i64 m5, .int .i64 m6, .string m7, .string m8, .string m9, .slice ka kl kc] 38)) (Nat.le_refl _))
      obtain ⟨W2, hW2⟩ : ∃ W, W = wr.alloc (.cells #[.int .i64 m1, .int .i64 m2, .int .i64 m3, .int .i64 m4, .int .i64 m5, .int .i64 m6, .string m7, .string m8, .string m9, .slice ka kl kc] 38) := ⟨_, rfl⟩
      rw [← hW2] at HB2 HST2
      rw [← hW2]
      clear f0 f1 f2 f3 f4 f5 f6 f7 f8 f9 hW2
      go_loopw [38] (fun i wi => ∃ j : Nat, j ≤ kl ∧ i = .int .i64 j ∧ Hid (∀ t ∈ m10.take j, t.size ≤ 100) ∧ ∃ d, wi = W2.drewN d) (fun i _ => kl - (intOf i).toNat)
      case atStart => exact ⟨0, Nat.zero_le _, rfl, Lib.hid (by intro t ht; simp at ht), 0, rfl⟩
      case round =>
        obtain ⟨j, hj, rfl, HJ, d, rfl⟩ := hrel
        by_cases hjl : j < kl
        · have hjm : j < m10.length := by rw [← HKL.out]; exact hjl
          obtain ⟨c, o2, rfl, hcell⟩ := HST2.out.cellAt hjm
          obtain ⟨t, ht⟩ : ∃ t, t = m10.getD j ⟨#[]⟩ := ⟨_, rfl⟩
          rw [← ht] at hcell
          have htm : m10[j]? = some t := by rw [ht, List.getD_eq_getElem?_getD, List.getElem?_eq_getElem hjm]; rfl
          have hts := HKS.out t (List.mem_of_getElem? htm)
          unfold maxLen at hts
          have HT := Lib.hid htm
          clear ht htm
          by_cases h5 : (100 : Int) < t.size
          · go_wp2_with fail
            go_ret
            exact ⟨true, rfl, (by intro h; cases h), below_drewN HB2.out _⟩
          · go_wp2_with fail
            exact ⟨⟨j + 1, by omega, by go_num, Lib.hid (take_more HJ.out HT.out (by omega)), _, rfl⟩, by simp [intOf]; omega⟩
        · obtain rfl : j = kl := by omega
          have hall : ∀ t ∈ m10, t.size ≤ 100 := by
            have := HJ.out
            rwa [HKL.out, List.take_length] at this
          have HFN : Hid (Fine ⟨m1, m2, m3, m4, m5, m6, m7, m8, m9, m10⟩) := Lib.hid ⟨by dsimp only; omega, by dsimp only; omega, by dsimp only; omega, by have := HKL.out; dsimp only; omega, hall⟩
          clear hall
          go_wp2_with fail
          refine ⟨⟨k + 1, by omega, by go_num, ?_, below_drewN HB2.out _⟩, by simp [intOf]; omega⟩
          intro j p hj hp
          by_cases e : j < k
          · exact HF.out j p e hp
          · obtain rfl : j = k := by omega
            rw [HP.out] at hp
            cases hp
            exact HFN.out
    · obtain rfl : k = n := by omega
      have HALL : Hid (∀ p ∈ ms, Fine p.1) := Lib.hid fun p hp => by
        obtain ⟨j, hj, e⟩ := List.getElem_of_mem hp
        exact HF.out j p (by rw [HN.out]; exact hj) (by rw [← e]; exact List.getElem?_eq_getElem hj)
      clear hfine
      go_wp2_with fail
      go_ret
      exact ⟨false, rfl, fun _ => HALL.out, hbel⟩

theorem great_none (a : Option Addr) (cap : Nat) (w : World) : Calls Tryz.prog 32 #[.slice a 0 cap] w (GreatTo [] w) := by
  go_enter Tryz.func32, Tryz.ntmps32
  go_wp2_with fail
  go_loop [9] (fun i => i = .int .i64 0) (fun _ => 0)
  case atStart => exact rfl
  case round =>
    obtain rfl := hrel
    go_wp2_with fail
    go_ret
    exact ⟨false, rfl, (fun _ p hp => by cases hp), Below.refl _ _⟩
theorem great_msgs (v : Value) (ms : List (MsgM × Value)) (w : World) (h : MsgsAt w v ms) (hn : ms.length ≤ 1000) (hs : ∀ p ∈ ms, Sized w p) : Calls Tryz.prog 32 #[v] w (GreatTo ms w) := by
  obtain ⟨a, cap, rfl, h⟩ := h
  rcases h with rfl | ⟨b, o, rfl, hb, h⟩
  · exact great_none a cap w
  · exact great_o ms b o ms.length cap w hb rfl hn hs h

instance : Inhabited (MsgM × Value) := ⟨(⟨0, 0, 0, 0, 0, 0, ⟨#[]⟩, ⟨#[]⟩, ⟨#[]⟩, []⟩, .slice none 0 0)⟩
section
variable {H : Type} {enc : TypeId × Value → H} {W : World}
set_option maxRecDepth 100000 in
theorem msg_open {n : Nat} {b o : Nat} {cs : List Value} {y : DataW H × List MemPlace} (hcs : W.cells? 0 ⟨b, o, none⟩ 10 = some cs) (h : DataW.trod enc Tryz.prog W 0 (fun _ => true) true n 38 cs = some y) :
    ∃ p : MsgM × Value, (∀ i, i < 10 → W.cell? ⟨b, o + i, none⟩ = (p.1.cells p.2)[i]?) ∧ Sized W p ∧ CapOk p.2 := by
  obtain ⟨_, hlen, hat⟩ := World.cells?_some hcs
  obtain ⟨xs, m, _, _, _, hxl, hf⟩ := DataW.trod_struct Tryz.underlying38 h
  match cs, hlen with
  | [c0, c1, c2, c3, c4, c5, c6, c7, c8, c9], _ =>
    have hx : xs.length = 10 := hxl
    match xs, hx with
    | [y0, y1, y2, y3, y4, y5, y6, y7, y8, y9], _ =>
      have f0 : DataW.trod enc Tryz.prog W 0 (fun _ => true) true m 3 [c0] = some y0 := hf 0 _ rfl
      have f1 : DataW.trod enc Tryz.prog W 0 (fun _ => true) true m 3 [c1] = some y1 := hf 1 _ rfl
      have f2 : DataW.trod enc Tryz.prog W 0 (fun _ => true) true m 3 [c2] = some y2 := hf 2 _ rfl
      have f3 : DataW.trod enc Tryz.prog W 0 (fun _ => true) true m 3 [c3] = some y3 := hf 3 _ rfl
      have f4 : DataW.trod enc Tryz.prog W 0 (fun _ => true) true m 3 [c4] = some y4 := hf 4 _ rfl
      have f5 : DataW.trod enc Tryz.prog W 0 (fun _ => true) true m 3 [c5] = some y5 := hf 5 _ rfl
      have f6 : DataW.trod enc Tryz.prog W 0 (fun _ => true) true m 9 [c6] = some y6 := hf 6 _ rfl
      have f7 : DataW.trod enc Tryz.prog W 0 (fun _ => true) true m 9 [c7] = some y7 := hf 7 _ rfl
      have f8 : DataW.trod enc Tryz.prog W 0 (fun _ => true) true m 9 [c8] = some y8 := hf 8 _ rfl
      have f9 : DataW.trod enc Tryz.prog W 0 (fun _ => true) true m 36 [c9] = some y9 := hf 9 _ rfl
      obtain ⟨b0, e0, _, _⟩ := DataW.trod_int Tryz.underlying3 f0
      obtain rfl : c0 = _ := List.singleton_inj.1 e0
      obtain ⟨b1, e1, _, _⟩ := DataW.trod_int Tryz.underlying3 f1
      obtain rfl : c1 = _ := List.singleton_inj.1 e1
      obtain ⟨b2, e2, _, _⟩ := DataW.trod_int Tryz.underlying3 f2
      obtain rfl : c2 = _ := List.singleton_inj.1 e2
      obtain ⟨b3, e3, _, _⟩ := DataW.trod_int Tryz.underlying3 f3
      obtain rfl : c3 = _ := List.singleton_inj.1 e3
      obtain ⟨b4, e4, _, _⟩ := DataW.trod_int Tryz.underlying3 f4
      obtain rfl : c4 = _ := List.singleton_inj.1 e4
      obtain ⟨b5, e5, _, _⟩ := DataW.trod_int Tryz.underlying3 f5
      obtain rfl : c5 = _ := List.singleton_inj.1 e5
      obtain ⟨b6, e6, _, z6⟩ := DataW.trod_string Tryz.underlying9 f6
      obtain rfl : c6 = _ := List.singleton_inj.1 e6
      obtain ⟨b7, e7, _, z7⟩ := DataW.trod_string Tryz.underlying9 f7
      obtain rfl : c7 = _ := List.singleton_inj.1 e7
      obtain ⟨b8, e8, _, z8⟩ := DataW.trod_string Tryz.underlying9 f8
      obtain rfl : c8 = _ := List.singleton_inj.1 e8
      have at_' : ∀ j, j < 10 → W.cell? ⟨b, o + j, none⟩ = (#[Value.int .i64 b0, .int .i64 b1, .int .i64 b2, .int .i64 b3, .int .i64 b4, .int .i64 b5, .string b6, .string b7, .string b8, c9] : Array Value)[j]? := fun j hj => by
        have := hat j hj
        rw [add_none] at this
        rw [this]
        simp
      rcases open_strings Tryz.underlying36 Tryz.underlying9 (by kernel_rfl) f9 with ⟨hcs, _⟩ | ⟨x, l, c, zs, hcs, _, hl, hm, hz, _, hcell, hwf⟩
      · obtain rfl : c9 = _ := List.singleton_inj.1 hcs
        exact ⟨(⟨b0, b1, b2, b3, b4, b5, b6, b7, b8, []⟩, .slice none 0 0), at_', ⟨⟨none, 0, rfl, .inl rfl⟩, z8, z6, z7, Nat.zero_le _, fun t ht => by cases ht⟩, ⟨none, 0, 0, rfl, Nat.le_refl _⟩⟩
      · obtain rfl : c9 = _ := List.singleton_inj.1 hcs
        exact ⟨(⟨b0, b1, b2, b3, b4, b5, b6, b7, b8, zs.take l⟩, .slice (some x) l c), at_', ⟨strs_of hl (by simpa using hz) hcell, z8, z6, z7, by have h1 := List.length_take_le l zs; simp at hz; show (zs.take l).length ≤ maxLen; omega, fun t ht => hwf t (List.mem_of_mem_take ht)⟩, ⟨some x, l, c, rfl, hl⟩⟩
set_option maxRecDepth 100000 in
theorem open_msgs {n : Nat} {la : Option Addr} {len cap : Nat} {y : DataW H × List MemPlace} (h : DataW.trod enc Tryz.prog W 0 (fun _ => true) true n 33 [.slice la len cap] = some y) :
    ∃ ms, MsgsAt W (.slice la len cap) ms ∧ ms.length ≤ maxLen ∧ ∀ p ∈ ms, Sized W p ∧ CapOk p.2 := by
  rcases open_slice Tryz.underlying33 h with ⟨hcs, _⟩ | ⟨a, l, c, m, q, D, Pl, hcs, _, hl, hm, hmm, _, hi⟩
  · cases hcs
    exact ⟨[], ⟨none, 0, rfl, .inl rfl⟩, Nat.zero_le _, fun x hx => by cases hx⟩
  · cases hcs
    have hC : Tryz.prog.cellsOf 38 = 10 := by kernel_rfl
    rcases Nat.eq_zero_or_pos len with h0 | h0
    · subst h0
      exact ⟨[], ⟨some a, cap, rfl, .inl rfl⟩, Nat.zero_le _, fun x hx => by cases hx⟩
    · have hml : len ≤ m := by rw [hmm]; simpa using hl
      obtain ⟨b, off, spot⟩ := a
      have hspot : spot = none := by
        obtain ⟨cs', h1, _⟩ := hi 0 (by omega)
        rw [hC] at h1
        obtain ⟨_, hlen, hat⟩ := World.cells?_some h1
        have h2 := hat 0 (by decide)
        rw [List.getElem?_eq_getElem (by omega)] at h2
        simpa [Addr.add] using World.cell?_spot h2
      subst hspot
      obtain ⟨X, hX⟩ := choose_lt (n := len) (p := fun i (x : MsgM × Value) => (∀ q, q < 10 → W.cell? ⟨b, off + i * 10 + q, none⟩ = (x.1.cells x.2)[q]?) ∧ Sized W x ∧ CapOk x.2) (fun i hil => by
        obtain ⟨cs', h1, h2⟩ := hi i (by omega)
        rw [hC, add_none] at h1
        exact msg_open h1 h2)
      have hb : b < W.heap.size := by
        have := (hX 0 (by omega)).1 0 (by decide)
        rw [show ((X 0).1.cells (X 0).2)[0]? = some (.int .i64 (X 0).1.kind) from rfl] at this
        exact World.block_lt_of_cell? _ _ this
      refine ⟨(List.range len).map X, ⟨_, cap, by simp, .inr ⟨b, off, rfl, hb, fun i x hx => ?_⟩⟩, by simpa using Nat.le_trans hl hm, fun x hx => ?_⟩
      · rw [List.getElem?_map] at hx
        obtain ⟨j, hj, rfl⟩ := Option.map_eq_some_iff.1 hx
        have hjl := List.getElem?_eq_some_iff.1 hj
        obtain ⟨h1, h2⟩ := hjl
        rw [List.getElem_range] at h2
        subst h2
        exact (hX _ (by simpa using h1)).1
      · obtain ⟨i, hil, rfl⟩ := List.mem_map.1 hx
        exact (hX i (List.mem_range.1 hil)).2
end
end Go.Proofs.YthkmnnokbocegaaGreatDoor

namespace Go.Proofs.YthkmnnokbocegaaGreatDoor
open Go.RowKit Go.Deep
set_option linter.unusedVariables false
set_option linter.unusedSimpArgs false
attribute [local go_sem] fr_opt

theorem chg_below {w w' : World} (h : Chg (fun _ => False) w w') : Below w.heap.size w w' := h.below (fun _ _ e => e.elim) (Nat.le_refl _)
theorem below_chg {w w' : World} (h : Below w.heap.size w w') : Chg (fun _ => False) w w' := Chg.of_below h
theorem Fine.sound {m : MsgM} (h : Fine m) : Sound m := ⟨by have := h.topic; unfold maxLen; omega, by have := h.tag; unfold maxLen; omega, by have := h.body; omega, by have := h.many; omega, fun t ht => by have := h.keys t ht; unfold maxLen; omega⟩
theorem Sized.below {w w' : World} {p : MsgM × Value} (h : Sized w p) (hb : Below w.heap.size w w') : Sized w' p := ⟨h.strs.below hb (Nat.le_refl _), h.body, h.topic, h.tag, h.many, h.keys⟩
theorem getK_noted (t : TapeM) (v : Value) (id size born : Int) : (getK (t.noted v id size born).M id).getD 0 = size := by
  simp only [TapeM.noted]
  unfold getK
  rw [List.find?_append]
  have : (dropK t.M id).find? (fun p => decide (p.1 = id)) = none := by
    rw [List.find?_eq_none]
    intro p hp
    have := (List.mem_filter.1 hp).2
    simp at this ⊢
    exact this
  rw [this]
  simp
theorem noted_len (t : TapeM) (v : Value) (id size born : Int) : (t.noted v id size born).M.length ≤ t.M.length + 1 ∧ (t.noted v id size born).ids.length = t.ids.length + 1 := by
  simp only [TapeM.noted, List.length_append, List.length_singleton]
  have : (dropK t.M id).length ≤ t.M.length := List.length_filter_le ..
  exact ⟨by omega, by first | trivial | rfl⟩
/-- How the tape is, k records on. -/
structure IdsI (w0 w : World) (tb k : Nat) (last : Int) (t : TapeM) (g : Gh) (st : St) (m : RowM) (j : Nat) (all : List UInt8) : Prop where
  tg : TapeG w0 w tb t g st m
  rc : RowC (4 * k) m st 1024 0 j all
  hd : m.head = tH
  ok : all.length % 1024 ≤ 1021
  sz : st.size ≤ 1351 * k
  cap : st.cap = 1048576
  len : all.length ≤ 1351 * k
  ml : t.M.length ≤ k
  il : t.ids.length ≤ k
  lt : last < all.length
  ge : -1 ≤ last
theorem IdsI.more {w0 w : World} {tb k : Nat} {last : Int} {t : TapeM} {g : Gh} {st : St} {m : RowM} {j : Nat} {all : List UInt8} (h : IdsI w0 w tb k last t g st m j all) : IdsI w0 w tb (k + 1) last t g st m j all :=
  ⟨h.tg, h.rc.more (by omega), h.hd, h.ok, by have := h.sz; omega, h.cap, by have := h.len; omega, by have := h.ml; omega, by have := h.il; omega, h.lt, h.ge⟩
theorem IdsI.new {w0 w w' : World} {tb k : Nat} {last : Int} {t : TapeM} {g : Gh} {st : St} {m : RowM} {j : Nat} {all : List UInt8} (h : IdsI w0 w tb k last t g st m j all) (hc : Chg (fun _ => False) w w') : IdsI w0 w' tb k last t g st m j all :=
  { h with tg := h.tg.new hc }
theorem IdsI.app {w0 w w' : World} {tb k : Nat} {last : Int} {t : TapeM} {g : Gh} {st : St} {m : RowM} {j : Nat} {all : List UInt8} {F S : ByteArray} {born : Int} (h : IdsI w0 w tb k last t g st m j all)
    (h3 : 3 ≤ S.size) (h327 : S.size ≤ 327) (hF : F.size ≤ 1024) (hok : (all.length + F.size + S.size) % 1024 ≤ 1021)
    (ha : TAppTo w0 w tb t g st m (4 * k + 4) 0 all (F.data.toList ++ S.data.toList) ((1024 * 0 + all.length + F.size : Nat) : Int) S.size born w') :
    ∃ t' g' st' m' j', IdsI w0 w' tb (k + 1) ((1024 * 0 + all.length + F.size : Nat) : Int) t' g' st' m' j' (all ++ (F.data.toList ++ S.data.toList)) ∧ (getK t'.M ((1024 * 0 + all.length + F.size : Nat) : Int)).getD 0 = (S.size : Int) := by
  obtain ⟨g', m', st', v', j', h1, h2, hh, hs, h5, h6, h7, h8⟩ := ha
  have hl : (F.data.toList ++ S.data.toList).length = F.size + S.size := by rw [List.length_append, size_toList, size_toList]
  have hn := noted_len t v' ((1024 * 0 + all.length + F.size : Nat) : Int) S.size born
  have a1 := h.sz
  have a2 := h.len
  have a3 := h.ml
  have a4 := h.il
  refine ⟨_, g', st', m', j', ⟨h1, h5, by rw [hh]; exact h.hd, ?_, by rw [h6, hl]; omega, by rw [h7]; exact h.cap, ?_, by have := hn.1; omega, by rw [hn.2]; omega, ?_, by omega⟩, getK_noted _ _ _ _ _⟩
  · rw [List.length_append, hl]; rw [← Nat.add_assoc]; exact hok
  · rw [List.length_append, hl]; omega
  · rw [List.length_append, hl]; omega

set_option maxHeartbeats 8000000 in
set_option maxRecDepth 100000 in
theorem walkF_TapeIds (v : Value) (ms : List (MsgM × Value)) (w : World) (ht : Tab10 w) (hv : MsgsAt w v ms) (hl : ms.length ≤ maxLen) (hs : ∀ p ∈ ms, Sized w p ∧ CapOk p.2) :
    Calls Tryz.prog 6 #[v] w fun e w' => e = .returned (.bool true) ∧ Below w.heap.size w w' := by
  unfold maxLen at hl
  have HTB := Lib.hid ht
  have HV := Lib.hid hv
  have HS := Lib.hid hs
  obtain ⟨a, cap, rfl⟩ := hv.form
  obtain ⟨n, hn⟩ : ∃ n, n = ms.length := ⟨_, rfl⟩
  have HN := Lib.hid hn
  rw [← hn] at HV hl ⊢
  clear ht hv hs hn
  go_enter Tryz.func6, Tryz.ntmps6
  go_wp2_with fail
  refine (tawake_any w HTB.out).mono ?_
  rintro e w1 ⟨rfl, hc1⟩
  have HC1 := Lib.hid hc1
  clear hc1
  by_cases h80 : 80 < n
  · go_wp2_with fail
    go_ret
    exact ⟨rfl, chg_below HC1.out⟩
  go_wp2_with fail
  refine (great_msgs _ ms w1 (HV.out.keep HC1.out (fun _ _ e => e)) (by rw [← HN.out]; omega) (fun p hp => (HS.out p hp).1.below (chg_below HC1.out))).mono ?_
  rintro e w2 ⟨z, rfl, hf, hb2⟩
  have HC2 := Lib.hid (HC1.out.trans (below_chg hb2) (fun _ _ e => e))
  have HF := Lib.hid hf
  clear hb2 hf
  cases z
  case true =>
    go_wp2_with fail
    go_ret
    exact ⟨rfl, chg_below HC2.out⟩
  have HFA := Lib.hid (HF.out rfl)
  clear HF
  have HN2 := Lib.hid (new_any 1048576 w2)
  go_wp2_with fail
  refine HN2.out.mono ?_
  rintro e w3 ⟨rfl, hd0, hb0⟩
  obtain ⟨g, hg⟩ : ∃ g : Gh, g = ⟨w2.heap.size, none, []⟩ := ⟨_, rfl⟩
  have hdg : DiskG w w3 w2.heap.size g (newSt 1048576) := ⟨by rw [hg]; exact hd0, by rw [hg], HC2.out.trans (below_chg hb0) (fun _ _ e => e), fun k hk => by rw [hg] at hk; simp [Gh.fp] at hk; have := HC2.out.size; omega⟩
  have HO := Lib.hid (topen_new hdg HTB.out)
  clear hd0 hb0 hg hdg
  go_wp2_with fail
  refine HO.out.mono ?_
  rintro e w4 ⟨tb, t0, g2, m2, st2, rfl, x1, x2, x3, x4, x5, x6, x7, x8, x9, x10, x11, x12⟩
  have hsz := new_size x9 x7 x12
  have HI0 : Hid (IdsI w w4 tb 0 (-1) t0 g2 st2 m2 0 []) := Lib.hid ⟨x2, x9, x7, Nat.zero_le _, by rw [hsz]; omega, by rw [x10]; rfl, Nat.zero_le _, by rw [x5]; exact Nat.le_refl _, by rw [x4]; exact Nat.le_refl _, by decide, by decide⟩
  clear x1 x2 x3 x4 x5 x6 x7 x8 x9 x10 x11 x12 hsz
  go_wp2_with fail
  go_loopw [5, 31] (fun la i wr => ∃ (k : Nat) (last : Int), k ≤ n ∧ i = .int .i64 k ∧ la = .int .i64 last ∧ ∃ t g st m j all, IdsI w wr tb k last t g st m j all) (fun _ i _ => n - (intOf i).toNat)
  case atStart => exact ⟨0, -1, Nat.zero_le _, rfl, rfl, _, _, _, _, _, _, HI0.out⟩
  case round =>
    obtain ⟨k, last, hk, rfl, rfl, t, g, st, m, j, all, hI⟩ := hrel
    have HI := Lib.hid hI
    clear hI
    by_cases hlt : k < n
    · obtain ⟨p, hp⟩ : ∃ p, ms[k]? = some p := ⟨_, List.getElem?_eq_getElem (by rw [← HN.out]; exact hlt)⟩
      have hpm := List.mem_of_getElem? hp
      obtain ⟨M, vk⟩ := p
      have hcw := HI.out.tg.chg
      obtain ⟨a', cap', e', hx⟩ := HV.out.keep hcw (fun _ _ e => e)
      rcases hx with hx | ⟨b, o, rfl, hbl, hcell⟩
      · rw [hx] at hp; cases hp
      have key := hcell k _ hp
      have hsz : Sized wr (M, vk) := (HS.out _ hpm).1.below (chg_below hcw)
      have hcp : CapOk vk := (HS.out _ hpm).2
      have hfn : Fine M := HFA.out _ hpm
      obtain ⟨hea, hec⟩ : a = some ⟨b, o, none⟩ ∧ cap = cap' := by injection e' with e1 e2 e3; exact ⟨e1, e3⟩
      subst hea
      clear e' hec hcell
      obtain ⟨m1, mq, m3, m4, m5, m6, m7, m8, m9, m10⟩ := M
      obtain ⟨ka, kc, hva⟩ := hsz.strs.form
      dsimp only at hva
      obtain ⟨kl, hkl⟩ : ∃ l, l = m10.length := ⟨_, rfl⟩
      rw [← hkl] at hva
      subst hva
      have hlow : b < wr.heap.size := hbl
      have f0 : wr.cell? ⟨b, o + k * 10, none⟩ = some (.int .i64 m1) := by first | (simp [MsgM.cells]; done) | simpa [MsgM.cells] using key 0 (by decide)
      have f1 : wr.cell? ⟨b, o + k * 10 + 1, none⟩ = some (.int .i64 mq) := by first | (simp [MsgM.cells]; done) | simpa [MsgM.cells] using key 1 (by decide)
      have f2 : wr.cell? ⟨b, o + k * 10 + 1 + 1, none⟩ = some (.int .i64 m3) := by first | (simp [MsgM.cells]; done) | simpa [MsgM.cells] using key 2 (by decide)
      have f3 : wr.cell? ⟨b, o + k * 10 + 1 + 1 + 1, none⟩ = some (.int .i64 m4) := by first | (simp [MsgM.cells]; done) | simpa [MsgM.cells] using key 3 (by decide)
      have f4 : wr.cell? ⟨b, o + k * 10 + 1 + 1 + 1 + 1, none⟩ = some (.int .i64 m5) := by first | (simp [MsgM.cells]; done) | simpa [MsgM.cells] using key 4 (by decide)
      have f5 : wr.cell? ⟨b, o + k * 10 + 1 + 1 + 1 + 1 + 1, none⟩ = some (.int .i64 m6) := by first | (simp [MsgM.cells]; done) | simpa [MsgM.cells] using key 5 (by decide)
      have f6 : wr.cell? ⟨b, o + k * 10 + 1 + 1 + 1 + 1 + 1 + 1, none⟩ = some (.string m7) := by first | (simp [MsgM.cells]; done) | simpa [MsgM.cells] using key 6 (by decide)
      have f7 : wr.cell? ⟨b, o + k * 10 + 1 + 1 + 1 + 1 + 1 + 1 + 1, none⟩ = some (.string m8) := by first | (simp [MsgM.cells]; done) | simpa [MsgM.cells] using key 7 (by decide)
      have f8 : wr.cell? ⟨b, o + k * 10 + 1 + 1 + 1 + 1 + 1 + 1 + 1 + 1, none⟩ = some (.string m9) := by first | (simp [MsgM.cells]; done) | simpa [MsgM.cells] using key 8 (by decide)
      have f9 : wr.cell? ⟨b, o + k * 10 + 1 + 1 + 1 + 1 + 1 + 1 + 1 + 1 + 1, none⟩ = some (.slice ka kl kc) := by first | (simp [MsgM.cells]; done) | simpa [MsgM.cells] using key 9 (by decide)
      obtain ⟨W1, hW1⟩ : ∃ W, W = wr.alloc (.cells #[.int .i64 m1, .int .i64 mq, .int .i64 m3, .int .i64 m4, .int .i64 m5, .int .i64 m6, .string m7, .string m8, .string m9, .slice ka kl kc] 38) := ⟨_, rfl⟩
      have hb1 : Below wr.heap.size wr W1 := hW1 ▸ (Below.refl _ _).alloc (Nat.le_refl _) _
      have HBX : Hid (Box W1 wr.heap.size #[.int .i64 m1, .int .i64 mq, .int .i64 m3, .int .i64 m4, .int .i64 m5, .int .i64 m6, .string m7, .string m8, .string m9, .slice ka kl kc]) := Lib.hid (hW1 ▸ Box.new wr _)
      have HSZ := Lib.hid hsz
      have HCP := Lib.hid hcp
      have HFN := Lib.hid hfn
      have HW1 := Lib.hid hW1
      have HB1 := Lib.hid hb1
      have HKL := Lib.hid hkl
      obtain ⟨le, hle⟩ : ∃ le, le = all.length := ⟨_, rfl⟩
      have HLE := Lib.hid hle
      have HI1 : Hid (IdsI w W1 tb k last t g st m j all) := Lib.hid (HI.out.new (below_chg hb1))
      have hlb : le ≤ 1351 * k := by rw [hle]; exact HI.out.len
      have hla : last < (le : Int) := by rw [hle]; exact HI.out.lt
      have hlg := HI.out.ge
      have hME : ∀ W, Below W1.heap.size W1 W → Strs W 0 (.slice ka kl kc) m10 := fun W hw => HSZ.out.strs.below (hb1.trans (hw.mono hb1.size)) (Nat.le_refl _)
      have HME := Lib.hid hME
      obtain ⟨F, S, E, hlf, hag⟩ := app_gen HI1.out.tg HI1.out.rc HI1.out.hd ⟨m1, mq, m3, m4, m5, m6, m7, m8, m9, m10⟩ (.slice ka kl kc) (hME W1 (Below.refl _ _)) hcp hfn.sound HI1.out.ok (by rw [HI1.out.cap]; have := HI1.out.sz; omega) (by omega) (by have := HI1.out.len; omega) (by have := HI1.out.ml; omega) (by have := HI1.out.il; omega)
      obtain ⟨cost, hcost⟩ : ∃ c : Int, c = (F.size : Int) + S.size := ⟨_, rfl⟩
      have HCOST : Hid (∀ W, Below W1.heap.size W1 W → Calls Tryz.prog 13 #[.pointer (some ⟨tb, 0, none⟩), .agg #[.int .i64 m1, .int .i64 mq, .int .i64 m3, .int .i64 m4, .int .i64 m5, .int .i64 m6, .string m7, .string m8, .string m9, .slice ka kl kc]] W (fun e w' => e = .returned (.int .i64 cost) ∧ Below W.heap.size W w')) := Lib.hid (fun W hw => by
        have := tcost_any (HI1.out.tg.new (below_chg hw)) HI1.out.rc.roomOk ⟨m1, mq, m3, m4, m5, m6, m7, m8, m9, m10⟩ (.slice ka kl kc) (hME W hw) hcp hfn.sound hlf
        rw [← hcost] at this
        exact this)
      have HEND : Hid (∀ W, Below W1.heap.size W1 W → Calls Tryz.prog 19 #[.pointer (some ⟨tb, 0, none⟩)] W (fun e w' => e = .returned (.int .i64 (le : Int)) ∧ Below W.heap.size W w')) := Lib.hid (fun W hw => by
        have := tend_any (HI1.out.tg.new (below_chg hw))
        rw [HI1.out.rc.row.end_, show 1024 * 0 + all.length = le by rw [hle]; omega] at this
        exact this.mono fun e w' ⟨x, y⟩ => ⟨x, y ▸ Below.refl _ _⟩)
      have HAG : Hid (∀ W, Below W1.heap.size W1 W → AppGen w W tb t g st m (4 * k) 0 all ⟨m1, mq, m3, m4, m5, m6, m7, m8, m9, m10⟩ (.slice ka kl kc) F S E) := Lib.hid (fun W hw => by
        obtain ⟨F', S', E', hlf', hag'⟩ := app_gen (HI1.out.tg.new (below_chg hw)) HI1.out.rc HI1.out.hd ⟨m1, mq, m3, m4, m5, m6, m7, m8, m9, m10⟩ (.slice ka kl kc) (hME W hw) hcp hfn.sound HI1.out.ok (by rw [HI1.out.cap]; have := HI1.out.sz; omega) (by omega) (by have := HI1.out.len; omega) (by have := HI1.out.ml; omega) (by have := HI1.out.il; omega)
        rw [hlf] at hlf'
        injection hlf' with q1 q2
        injection q2 with q2 q3
        subst q1; subst q2; subst q3
        exact hag')
      have HC := Lib.hid hcost
      have HP := Lib.hid hp
      clear hp hpm hcw hbl key hsz hcp hfn hlow hW1 hb1 hkl hle hME hlf hag hcost
      go_upto_region 12 with fail
      rw [← HW1.out]
      clear f0 f1 f2 f3 f4 f5 f6 f7 f8 f9
      refine region_inv' (n := 99) rfl rfl (by kernel_rfl) (by kernel_rfl) (fun i v _ => match i with | 0 => v = .pointer (some ⟨tb, 0, none⟩) | 1 => v = .int .i64 (le : Int) | 2 => v = .pointer (some ⟨tb, 0, none⟩) | 3 => v = .agg #[.int .i64 m1, .int .i64 mq, .int .i64 m3, .int .i64 m4, .int .i64 m5, .int .i64 m6, .string m7, .string m8, .string m9, .slice ka kl kc] | 4 => v = .int .i64 cost | 5 => v = .int .i64 (le : Int) | 6 => v = .int .i64 cost | _ => True)
        (fun w' => Below W1.heap.size W1 w') (fun w' w2 => Below W1.heap.size w' w2) (fun w' => Below.refl _ _) (fun _ _ _ _ _ h => h) (Below.refl _ _).drew ?_ ?_
      · simp only [AllAt]
        refine ⟨?_, ?_, ?_, ?_, ?_, ?_, ?_, trivial⟩
        · refine StepAt.plain rfl ?_
          intro f w' hG hfr hp Kx hK
          have g3 : f 3 = .pointer (some ⟨tb, 0, none⟩) := hfr 3 (by kernel_rfl)
          clear hfr hp
          go_simp
          exact hK _ _ rfl hG (Below.refl _ _)
        · refine StepAt.plain rfl ?_
          intro f w' hG hfr hp Kx hK
          have g35 : f 35 = .pointer (some ⟨tb, 0, none⟩) := hp 0 _ 35 rfl rfl (by kernel_rfl)
          clear hfr hp
          go_simp
          refine (HEND.out w' hG).mono ?_
          rintro e w2 ⟨rfl, hb⟩
          exact hK _ _ rfl (Below.trans hG (Below.mono hb hG.size)) (Below.mono hb hG.size)
        · refine StepAt.plain rfl ?_
          intro f w' hG hfr hp Kx hK
          have g3 : f 3 = .pointer (some ⟨tb, 0, none⟩) := hfr 3 (by kernel_rfl)
          clear hfr hp
          go_simp
          exact hK _ _ rfl hG (Below.refl _ _)
        · refine StepAt.plain rfl ?_
          intro f w' hG hfr hp Kx hK
          have g7 : f 7 = .pointer (some ⟨wr.heap.size, 0, none⟩) := hfr 7 (by kernel_rfl)
          clear hfr hp
          have k0 := (HBX.out.below hG HBX.out.lt).cell
          go_simp
          exact hK _ _ rfl hG (Below.refl _ _)
        · refine StepAt.plain rfl ?_
          intro f w' hG hfr hp Kx hK
          have g37 : f 37 = .pointer (some ⟨tb, 0, none⟩) := hp 2 _ 37 rfl rfl (by kernel_rfl)
          have g38 : f 38 = .agg #[.int .i64 m1, .int .i64 mq, .int .i64 m3, .int .i64 m4, .int .i64 m5, .int .i64 m6, .string m7, .string m8, .string m9, .slice ka kl kc] := hp 3 _ 38 rfl rfl (by kernel_rfl)
          clear hfr hp
          go_simp
          refine (HCOST.out w' hG).mono ?_
          rintro e w2 ⟨rfl, hb⟩
          exact hK _ _ rfl (Below.trans hG (Below.mono hb hG.size)) (Below.mono hb hG.size)
        · refine StepAt.plain rfl ?_
          intro f w' hG hfr hp Kx hK
          have g36 : f 36 = .int .i64 (le : Int) := hp 1 _ 36 rfl rfl (by kernel_rfl)
          clear hfr hp
          go_simp
          exact hK _ _ rfl hG (Below.refl _ _)
        · refine StepAt.plain rfl ?_
          intro f w' hG hfr hp Kx hK
          have g39 : f 39 = .int .i64 cost := hp 4 _ 39 rfl rfl (by kernel_rfl)
          clear hfr hp
          go_simp
          exact hK _ _ rfl hG (Below.refl _ _)
      · intro f w5 hG hfr hR
        have hback := fr_back (n := 99) (f := f) (D := [8, 9, 35, 36, 37, 38, 39]) rfl (by kernel_rfl) hfr
        have y36 : f 36 = .int .i64 (le : Int) := hR 1 _ 36 rfl rfl
        have y38 : f 38 = .agg #[.int .i64 m1, .int .i64 mq, .int .i64 m3, .int .i64 m4, .int .i64 m5, .int .i64 m6, .string m7, .string m8, .string m9, .slice ka kl kc] := hR 3 _ 38 rfl rfl
        have y39 : f 39 = .int .i64 cost := hR 4 _ 39 rfl rfl
        have y8 : f 8 = .int .i64 (le : Int) := hR 5 _ 8 rfl rfl
        have y9 : f 9 = .int .i64 cost := hR 6 _ 9 rfl rfl
        rw [hback]
        simp only [mixL, List.elem_eq_contains, List.contains_cons, List.contains_nil, Nat.reduceBEq, Nat.reduceAdd, Bool.or_false, Bool.or_true, Bool.false_or, Bool.true_or, cond_false, cond_true, Bool.or_self, Nat.zero_add, y8, y9]
        have HG5 := Lib.hid hG
        clear hR hG hfr hback y36 y38 y39 y8 y9
        have k5 := (HBX.out.below HG5.out HBX.out.lt).cell
        have HI5 : Hid (IdsI w w5 tb k last t g st m j all) := Lib.hid (HI1.out.new (below_chg HG5.out))
        rcases HAG.out w5 HG5.out with ⟨rfl, hf0, hs0, hA⟩ | ⟨rfl, h3, h327, hf1, hm1, hm2, _, hA⟩
        · have HA := Lib.hid hA
          have hc0 : cost = 0 := by rw [HC.out, hf0, hs0]; rfl
          subst hc0
          clear hA
          go_wp2_with fail
          refine HA.out.mono ?_
          rintro e w6 ⟨rfl, hb6⟩
          have HB6 := Lib.hid hb6
          have hE6 := tend_any ((HI5.out.tg).new (below_chg hb6))
          rw [HI5.out.rc.row.end_, show 1024 * 0 + all.length = le by rw [HLE.out]; omega] at hE6
          have HE6 := Lib.hid hE6
          clear hb6 hE6
          go_wp2_with fail
          refine HE6.out.mono ?_
          rintro e w7 ⟨rfl, rfl⟩
          go_wp2_with fail
          exact ⟨⟨k + 1, last, by omega, by go_num, rfl, _, _, _, _, _, _, (HI5.out.new (below_chg HB6.out)).more⟩, by simp [intOf]; omega⟩
        · obtain ⟨q, hq⟩ : ∃ q, q = 1024 * 0 + all.length + F.size := ⟨_, rfl⟩
          obtain ⟨ns, hns⟩ : ∃ ns, ns = S.size := ⟨_, rfl⟩
          have HX : Hid (∀ w', TAppTo w w5 tb t g st m (4 * k + 4) 0 all (F.data.toList ++ S.data.toList) (q : Int) ns m6 w' → ∃ t' g' st' m' j' all', IdsI w w' tb (k + 1) (q : Int) t' g' st' m' j' all' ∧ (getK t'.M (q : Int)).getD 0 = (ns : Int) ∧ all'.length = q + ns) := Lib.hid (fun w' ha => by
            rw [hq, hns] at ha ⊢
            obtain ⟨t', g', st', m', j', a1, a2⟩ := HI5.out.app h3 h327 hf1 hm2 ha
            exact ⟨t', g', st', m', j', _, a1, a2, by rw [List.length_append, List.length_append, size_toList, size_toList]; omega⟩)
          have hce : cost = (q : Int) - le + ns := by rw [HC.out, hq, hns, HLE.out]; omega
          rw [← hq, ← hns] at hA
          have hq1 : le ≤ q := by rw [hq, HLE.out]; omega
          have hq2 : q ≤ 200000 := by rw [hq, ← HLE.out]; omega
          have hn1 : 3 ≤ ns := by rw [hns]; exact h3
          have hn2 : ns ≤ 327 := by rw [hns]; exact h327
          have hdv : (q : Int) / 1024 = ((q : Int) + ns - 1) / 1024 := by
            have : q % 1024 + ns ≤ 1024 := by rw [hq, hns]; exact hm1
            omega
          obtain ⟨qd, hqd⟩ : ∃ qd, qd = ((q : Int) + ns - 1) / 1024 := ⟨_, rfl⟩
          have hqm : q % 1024 + ns ≤ 1024 := by rw [hq, hns]; exact hm1
          clear hqd hdv
          have HA := Lib.hid hA
          have HCE := Lib.hid hce
          clear hA hce hq hns hf1 hm1 hm2 h3 h327
          go_wp2_with fail
          refine HA.out.mono ?_
          rintro e w6 ⟨rfl, hto⟩
          obtain ⟨t', g', st', m', j', all', hI', hgk, hal'⟩ := HX.out w6 hto
          have hSZ := tsize_any hI'.tg.tape (q : Int) (twf_nat q (by omega))
          rw [hgk] at hSZ
          have hE6 := tend_any hI'.tg
          rw [hI'.rc.row.end_, show 1024 * 0 + all'.length = q + ns by rw [hal']; omega] at hE6
          have HSZ := Lib.hid hSZ
          have HE6 := Lib.hid hE6
          have HI' := Lib.hid hI'
          clear hto hI' hgk hal' hSZ hE6
          go_wp2_with fail
          refine HSZ.out.mono ?_
          rintro e w7 ⟨rfl, rfl⟩
          go_wp2_with fail
          refine HE6.out.mono ?_
          rintro e w7 ⟨rfl, rfl⟩
          have hce := HCE.out
          go_wp2_with fail
          refine HE6.out.mono ?_
          rintro e w7 ⟨rfl, rfl⟩
          go_wp2_with fail
          · rename_i hbad
            exfalso
            rcases hbad with (hb | hb) | hb
            · omega
            · have := eq_of_beq hb
              omega
            · omega
          · exact ⟨⟨k + 1, (q : Int), by omega, by go_num, rfl, _, _, _, _, _, _, HI'.out⟩, by simp [intOf]; omega⟩
    · go_wp2_with fail
      go_ret
      exact ⟨rfl, chg_below HI.out.tg.chg⟩
end Go.Proofs.YthkmnnokbocegaaGreatDoor

