/-
  Part 31: what the statement needs of these texts: KChW, KFnP.
-/
import Derived.BigQuiet
import Derived.BigRegion
import Derived.Carry
import Derived.ChangeSame
import Derived.Deep.Grids
import Derived.Deep.OwnRows
import Derived.Deep.QuietTactic
import Derived.Deep.RegionHeld3
import Derived.IntWalk
import Derived.Laws.CopyOwn
import Derived.Laws.OwnMore
import Derived.Laws.RangeAny
import Derived.Lib.AppendStr
import Derived.Lib.AppendZerosOnto
import Derived.Lib.Atoi
import Derived.Lib.AtoiErrMem
import Derived.Lib.BufferRead
import Derived.Lib.BufferWrite
import Derived.Lib.Builder
import Derived.Lib.Hide
import Derived.Lib.IndexMore
import Derived.Lib.ItoaNum
import Derived.Lib.LaidTab
import Derived.Lib.OthersKept
import Derived.Lib.Repeat
import Derived.Lib.Slices
import Derived.Lib.SmallJoins
import Derived.Lib.Strings
import Derived.Lib.UnsafeStr
import Derived.Maps.AppendAt
import Derived.Maps.OwnSet
import Derived.Maps.RangeWalk
import Derived.OpenShut
import Derived.Orders
import Derived.ProofKit
import Derived.RowKit
import Derived.Shelf.Slices.In.SortNone
import Derived.Shelf.Small.Wraps
import Derived.Shelf.Sort.Plain
import Derived.Shelf.Strings.Builder1
import Derived.Shelf.Strings.Prefix
import Derived.Shelf.Strings.Repeat
import Derived.SliceStrings
import Derived.Sort.KeysCollected
import Derived.Sort.OwnSorted
import Derived.StillTailTactics
import Derived.StringKeys
import Derived.Test.YtmmnoieafndgjaaGreatProg
import Derived.Test.YtmmnoieafndgjaaGreatRows
import Derived.WalkKit
import Derived.WalkLawsBesides
import Derived.WalkSmall
import Derived.WalkSpells
import Derived.Test.YtmmnoieafndgjaaGreatHf1
import Derived.Test.YtmmnoieafndgjaaGreatHf2
import Derived.Test.YtmmnoieafndgjaaGreatHf3
import Derived.Test.YtmmnoieafndgjaaGreatHf4
import Derived.Test.YtmmnoieafndgjaaGreatHf5
import Derived.Test.YtmmnoieafndgjaaGreatHf6
import Derived.Test.YtmmnoieafndgjaaGreatHf7
import Derived.Test.YtmmnoieafndgjaaGreatHf8
import Derived.Test.YtmmnoieafndgjaaGreatHf9
import Derived.Test.YtmmnoieafndgjaaGreatHf10
import Derived.Test.YtmmnoieafndgjaaGreatHf11
import Derived.Test.YtmmnoieafndgjaaGreatHf12
import Derived.Test.YtmmnoieafndgjaaGreatHf13
import Derived.Test.YtmmnoieafndgjaaGreatHf14
import Derived.Test.YtmmnoieafndgjaaGreatHf15
import Derived.Test.YtmmnoieafndgjaaGreatHf16
import Derived.Test.YtmmnoieafndgjaaGreatHf17
import Derived.Test.YtmmnoieafndgjaaGreatHf18
import Derived.Test.YtmmnoieafndgjaaGreatHf19
import Derived.Test.YtmmnoieafndgjaaGreatHf20
import Derived.Test.YtmmnoieafndgjaaGreatHf21
import Derived.Test.YtmmnoieafndgjaaGreatHf22
import Derived.Test.YtmmnoieafndgjaaGreatHf23
import Derived.Test.YtmmnoieafndgjaaGreatHf24
import Derived.Test.YtmmnoieafndgjaaGreatHf25
import Derived.Test.YtmmnoieafndgjaaGreatHf26
import Derived.Test.YtmmnoieafndgjaaGreatHf27
import Derived.Test.YtmmnoieafndgjaaGreatHf28
import Derived.Test.YtmmnoieafndgjaaGreatHf29
import Derived.Test.YtmmnoieafndgjaaGreatHf30
namespace Go.Proofs.YtmmnoieafndgjaaGreat
open Go.RowKit Go.Deep
set_option linter.unusedVariables false
set_option linter.unusedSimpArgs false

theorem ads_form {W : World} {v : Value} {os : List AdM} (h : Ads W v os) : ∃ a cap, v = .slice a os.length cap := by
  obtain ⟨a, cap, e, _⟩ := h
  exact ⟨a, cap, e⟩
theorem ads_cells {W W' : World} {a : Option Addr} {n cap k : Nat} {os : List AdM} {x : AdM} (h : Ads W (.slice a n cap) os) (hc : Chg (fun _ => False) W W') (hk : os[k]? = some x) :
    ∃ b o, a = some ⟨b, o, none⟩ ∧ W'.cell? ⟨b, o + k * 4, none⟩ = some (.string x.t) ∧ W'.cell? ⟨b, o + k * 4 + 1, none⟩ = some (.string x.k) ∧ W'.cell? ⟨b, o + k * 4 + 2, none⟩ = some (.int .i64 x.x) ∧ W'.cell? ⟨b, o + k * 4 + 3, none⟩ = some (.int .i64 x.y) := by
  obtain ⟨a', cap', e, h⟩ := h
  cases e
  rcases h with h | ⟨b, o, rfl, h⟩
  · rw [h] at hk; cases hk
  · have := h k x hk
    exact ⟨b, o, rfl, hc.cell (this 0 (by decide)) (fun x => x), hc.cell (this 1 (by decide)) (fun x => x), hc.cell (this 2 (by decide)) (fun x => x), hc.cell (this 3 (by decide)) (fun x => x)⟩
end Go.Proofs.YtmmnoieafndgjaaGreat

namespace Go.Proofs.YtmmnoieafndgjaaGreat
open Go.RowKit Go.Deep
open Go.Joins Go.ChangeShapes Go.WideShapes
set_option linter.unusedVariables false
set_option linter.unusedSimpArgs false

theorem lawNum_any (t k : ByteArray) (w : World) (ht : t.size ≤ 1000) (hk : k.size ≤ 1000) : Calls Tryz.prog 11 #[.string t, .string k] w fun e w' => e = .returned (.int .i64 (numK t k : Nat)) ∧ w = w' := by
  have hsz : (t ++ (⟨#[35]⟩ : ByteArray) ++ k).size = t.size + 1 + k.size := by rw [ByteArray.size_append, ByteArray.size_append]; rfl
  have e : numK t k = hashF 0 (t ++ (⟨#[35]⟩ : ByteArray) ++ k).data.toList := by
    unfold numK
    congr 1
    simp [ByteArray.data_append]
  have H := Lib.hid (refHash_any (t ++ (⟨#[35]⟩ : ByteArray) ++ k) w (by rw [hsz]; unfold maxLen; omega))
  rw [← e] at H
  clear e
  have g1 : (⟨#[35]⟩ : ByteArray).size = 1 := rfl
  go_enter Tryz.func11, Tryz.ntmps11
  go_wp2_with fail
  refine H.out.mono ?_
  rintro e w2 ⟨rfl, rfl⟩
  go_wp2_with fail
  go_ret
  exact ⟨rfl, rfl⟩
def adOk (a : AdM) : Bool := decide (addE a.t a.k a.x a.y = 0)
def toKE (a : AdM) : KE := ⟨numK a.t a.k, a.x.toNat, a.y.toNat⟩
def accF (l : List AdM) : List AdM := l.filter adOk
theorem acc_snoc {l : List AdM} {k : Nat} {a : AdM} (h : l[k]? = some a) : accF (l.take (k + 1)) = if adOk a = true then accF (l.take k) ++ [a] else accF (l.take k) := by
  rw [take_snoc_at h]
  unfold accF
  rw [List.filter_append, List.filter_cons, List.filter_nil]
  split
  · rfl
  · rw [List.append_nil]
theorem rF_acc : ∀ (l : List AdM) (k : Nat), rF (l.take k) = ((accF (l.take k)).map toKE).reverse
  | l, 0 => by rw [List.take_zero]; rfl
  | l, k + 1 => by
    cases h : l[k]? with
    | none =>
      have h2 : l.length ≤ k := List.getElem?_eq_none_iff.1 h
      have h1 := rF_acc l k
      rw [List.take_of_length_le (by omega)] at h1 ⊢
      exact h1
    | some a =>
      rw [rF_snoc h, acc_snoc h, rF_acc l k]
      unfold addR adOk
      by_cases ha : addE a.t a.k a.x a.y = 0
      · rw [if_pos ha, if_pos (decide_eq_true ha), List.map_append, List.reverse_append]
        rfl
      · rw [if_neg ha, if_neg (by simpa using ha)]
theorem acc_ok {l : List AdM} {a : AdM} (h : a ∈ accF l) : 0 ≤ a.x ∧ a ∈ l := by
  unfold accF at h
  obtain ⟨h1, h2⟩ := List.mem_filter.1 h
  refine ⟨?_, h1⟩
  have h2 := of_decide_eq_true h2
  unfold addE at h2
  split at h2
  · split at h2
    · rename_i hx; exact hx.1.1
    · omega
  · omega
/-- The law's own loop over what was added, newest first. -/
def lawG (h : Nat) (least most : Int) : List KE → List Int → List Int
  | [], a => a
  | k :: r, a => if most ≤ (a.length : Int) then a else if k.h % 8 = h % 8 then (if (k.at_ : Int) < least then a else lawG h least most r (if k.h = h then a ++ [(k.at_ : Int)] else a)) else lawG h least most r a
theorem along_full (h : Nat) (least most : Int) (b : Nat) : ∀ (R : List KE) (a : List Int), most ≤ (a.length : Int) → alongF (findStp h least most) b R a = a
  | [], a, _ => rfl
  | k :: r, a, hm => by
    have e : findStp h least most (r.length + 1) k a = (false, a) := by unfold findStp; rw [if_pos (.inl hm)]
    rw [alongF, e, along_full h least most b r a hm]
    split <;> simp
theorem lawG_find (h : Nat) (least most : Int) : ∀ (R : List KE) (a : List Int), lawG h least most R a = alongF (findStp h least most) (h % 8) R a
  | [], a => rfl
  | k :: r, a => by
    rw [lawG]
    by_cases hm : most ≤ (a.length : Int)
    · rw [if_pos hm, along_full h least most _ _ a hm]
    · rw [if_neg hm, alongF]
      by_cases hb : k.h % 8 = h % 8
      · rw [if_pos hb, if_pos hb]
        by_cases hl : (k.at_ : Int) < least
        · have e : findStp h least most (r.length + 1) k a = (false, a) := by unfold findStp; rw [if_pos (.inr hl)]
          rw [if_pos hl, e]
          simp
        · have e : findStp h least most (r.length + 1) k a = (true, if k.h = h then a ++ [(k.at_ : Int)] else a) := by unfold findStp; rw [if_neg (by omega)]
          rw [if_neg hl, e, lawG_find h least most r]
          simp
      · rw [if_neg hb, if_neg hb]
        exact lawG_find h least most r a
def adV (a : AdM) : Value := .agg #[.string a.t, .string a.k, .int .i64 a.x, .int .i64 a.y]
set_option maxRecDepth 100000 in
theorem open_twoi {H : Type} {enc : TypeId × Value → H} {w : World} {r : Reach} {bb : Nat} {v : Value} {d : DataW H} {p : List MemPlace} (hv : Value.okWide Tryz.prog w r bb 25 v) (h : DataW.Trod enc Tryz.prog w 0 (fun _ => true) true 25 v d p) :
    ∃ b0 b1 : Int, v = .agg #[.int .i64 b0, .int .i64 b1] ∧ (Lit.int .i64 b0).wf = true ∧ (Lit.int .i64 b1).wf = true := by
  have ha := Tryz.underlying25
  have hC : Tryz.prog.cellsOf 25 = 2 := by kernel_rfl
  have hE : Tryz.prog.cellsOf 3 = 1 := by kernel_rfl
  simp only [Value.okWide, ha] at hv
  obtain ⟨cs, rfl, hsz, _⟩ := hv
  obtain ⟨l⟩ := cs
  match l, hsz.trans hC with
  | [c0, c1], _ =>
    obtain ⟨fuel, hf⟩ := h
    obtain ⟨xs, m, _, _, _, hl, hg⟩ := DataW.trod_array ha hf
    match xs, hl with
    | [y0, y1], _ =>
      have g0 : DataW.trod enc Tryz.prog w 0 (fun _ => true) true m 3 [c0] = some y0 := by simpa [Value.cells, hE] using hg 0 (by decide)
      have g1 : DataW.trod enc Tryz.prog w 0 (fun _ => true) true m 3 [c1] = some y1 := by simpa [Value.cells, hE] using hg 1 (by decide)
      obtain ⟨z0, e0, _, w0⟩ := DataW.trod_int Tryz.underlying3 g0
      obtain ⟨z1, e1, _, w1⟩ := DataW.trod_int Tryz.underlying3 g1
      obtain rfl : c0 = _ := List.singleton_inj.1 e0
      obtain rfl : c1 = _ := List.singleton_inj.1 e1
      exact ⟨z0, z1, rfl, w0, w1⟩
set_option maxRecDepth 100000 in
theorem open_ad {H : Type} {enc : TypeId × Value → H} {w : World} {r : Reach} {bb : Nat} {v : Value} {d : DataW H} {p : List MemPlace} (hv : Value.okWide Tryz.prog w r bb 24 v) (h : DataW.Trod enc Tryz.prog w 0 (fun _ => true) true 24 v d p) :
    ∃ a : AdM, v = adV a := by
  obtain ⟨c0, c1, c2, c3, y0, y1, y2, y3, m, rfl, hd, hp, g0, g1, g2, g3⟩ := open_agg4 Tryz.underlying24 (by kernel_rfl) (by kernel_rfl) hv h
  obtain ⟨t, e0, _, _⟩ := DataW.trod_string Tryz.underlying9 g0
  obtain ⟨k, e1, _, _⟩ := DataW.trod_string Tryz.underlying9 g1
  obtain ⟨x, e2, _, _⟩ := DataW.trod_int Tryz.underlying3 g2
  obtain ⟨y, e3, _, _⟩ := DataW.trod_int Tryz.underlying3 g3
  obtain rfl : c0 = _ := List.singleton_inj.1 e0
  obtain rfl : c1 = _ := List.singleton_inj.1 e1
  obtain rfl : c2 = _ := List.singleton_inj.1 e2
  obtain rfl : c3 = _ := List.singleton_inj.1 e3
  exact ⟨⟨t, k, x, y⟩, rfl⟩
end Go.Proofs.YtmmnoieafndgjaaGreat

