/-
  Part 26: what the statement needs of these texts: Kx, KLink, KAdd, KAlong, KOn, KFind, KNew.
-/
import Derived.BigQuiet
import Derived.BigRegion
import Derived.Deep.OwnRows
import Derived.Deep.QuietTactic
import Derived.Deep.RegionHeld3
import Derived.IntWalk
import Derived.Laws.CopyOwn
import Derived.Laws.OwnMore
import Derived.Laws.RangeAny
import Derived.Lib.AppendStr
import Derived.Lib.AppendZerosOnto
import Derived.Lib.Atoi
import Derived.Lib.AtoiErrMem
import Derived.Lib.BufferRead
import Derived.Lib.BufferWrite
import Derived.Lib.Builder
import Derived.Lib.Hide
import Derived.Lib.IndexMore
import Derived.Lib.ItoaNum
import Derived.Lib.LaidTab
import Derived.Lib.Repeat
import Derived.Lib.Slices
import Derived.Lib.Strings
import Derived.Lib.UnsafeStr
import Derived.Maps.AppendAt
import Derived.Maps.OwnSet
import Derived.Maps.RangeWalk
import Derived.Orders
import Derived.ProofKit
import Derived.Shelf.Slices.In.SortNone
import Derived.Shelf.Small.Wraps
import Derived.Shelf.Sort.Plain
import Derived.Shelf.Strings.Builder1
import Derived.Shelf.Strings.Prefix
import Derived.Shelf.Strings.Repeat
import Derived.Sort.KeysCollected
import Derived.Sort.OwnSorted
import Derived.StillTailTactics
import Derived.StringKeys
import Derived.Test.YtmmnoieafndgjaaProg
import Derived.Test.YtmmnoieafndgjaaRows
import Derived.WalkKit
import Derived.WalkLawsBesides
import Derived.WalkSpells
import Derived.Test.YtmmnoieafndgjaaHm1
import Derived.Test.YtmmnoieafndgjaaHm2
import Derived.Test.YtmmnoieafndgjaaHm3
import Derived.Test.YtmmnoieafndgjaaHm4
import Derived.Test.YtmmnoieafndgjaaHm6
import Derived.Test.YtmmnoieafndgjaaHm7
import Derived.Test.YtmmnoieafndgjaaHm9
import Derived.Test.YtmmnoieafndgjaaHm10
import Derived.Test.YtmmnoieafndgjaaHm11
import Derived.Test.YtmmnoieafndgjaaHm12
import Derived.Test.YtmmnoieafndgjaaHm13
import Derived.Test.YtmmnoieafndgjaaHm14
import Derived.Test.YtmmnoieafndgjaaHm15
import Derived.Test.YtmmnoieafndgjaaHm16
import Derived.Test.YtmmnoieafndgjaaHm17
import Derived.Test.YtmmnoieafndgjaaHm18
import Derived.Test.YtmmnoieafndgjaaHm19
import Derived.Test.YtmmnoieafndgjaaHm20
import Derived.Test.YtmmnoieafndgjaaHm21
import Derived.Test.YtmmnoieafndgjaaHm22
import Derived.Test.YtmmnoieafndgjaaHm23
import Derived.Test.YtmmnoieafndgjaaHm24
import Derived.Test.YtmmnoieafndgjaaHm25
namespace Go.Proofs.Ytmmnoieafndgjaa
open Go.RowKit Go.Deep
set_option linter.unusedVariables false
set_option linter.unusedSimpArgs false

def xL : ByteArray := ⟨#[120, 45, 108, 105, 110, 107, 115]⟩
def xS : ByteArray := ⟨#[120, 45, 115, 108, 111, 116, 115]⟩
theorem xLS : xL ≠ xS := by decide
structure KxI (w0 w : World) (xb : Nat) (g : Gh) (st : St) (n : Nat) (R : List KE) : Prop where
  disk : DiskG w0 w g.d g st
  calm : Calm n st
  cell : w.heap[xb]? = some (.cells #[.pointer (some ⟨g.d, 0, none⟩), .int .i64 (R.length : Nat)] 38 (0, 0))
  low : w0.heap.size ≤ xb
  out : xb ∉ g.fp
  lnk : ∃ f, st.find xL = some f ∧ f.bytes = linksB R
  slt : ∃ f, st.find xS = some f ∧ f.bytes = slotsB R
  size : st.size = 20 * R.length + 24
  ok : ∀ k ∈ R, k.ok
theorem KxI.lt {w0 w : World} {xb : Nat} {g : Gh} {st : St} {n : Nat} {R : List KE} (h : KxI w0 w xb g st n R) : xb < w.heap.size := (Array.getElem?_eq_some_iff.1 h.cell).1
theorem KxI.chg {w0 w w' : World} {S : Nat → Prop} {xb : Nat} {g : Gh} {st : St} {n : Nat} {R : List KE} (h : KxI w0 w xb g st n R) (hc : Chg S w w') (hx : ¬ S xb) (hS : ∀ q ∈ g.fp, ¬ S q) (h0 : ∀ q, q < w0.heap.size → ¬ S q) : KxI w0 w' xb g st n R :=
  ⟨⟨h.disk.disk.chg hc hS, rfl, h.disk.chg.trans hc (fun i hi hs => h0 i hi hs), h.disk.low⟩, h.calm, hc.heap h.cell hx, h.low, h.out, h.lnk, h.slt, h.size, h.ok⟩
theorem KxI.new {w0 w w' : World} {xb : Nat} {g : Gh} {st : St} {n : Nat} {R : List KE} (h : KxI w0 w xb g st n R) (hc : Chg (fun _ => False) w w') : KxI w0 w' xb g st n R := h.chg hc (fun x => x) (fun _ _ x => x) (fun _ _ x => x)
theorem KxI.cells {w0 w : World} {xb : Nat} {g : Gh} {st : St} {n : Nat} {R : List KE} (h : KxI w0 w xb g st n R) : w.cell? ⟨xb, 0, none⟩ = some (.pointer (some ⟨g.d, 0, none⟩)) ∧ w.cell? ⟨xb, 1, none⟩ = some (.int .i64 (R.length : Nat)) ∧ ∀ i, w.frozen? ⟨xb, i, none⟩ = false := by
  have h := h.cell
  refine ⟨?_, ?_, fun i => ?_⟩ <;> simp [World.cell?, World.frozen?, h]

theorem right_any (x : Int) (w : World) : Calls Try.prog 15 #[.int .i64 x] w fun e w' => e = .returned (.bool (decide (0 ≤ x ∧ x ≤ 1099511627776))) ∧ w = w' := by
  by_cases h0 : 0 ≤ x
  · have e : decide (0 ≤ x ∧ x ≤ 1099511627776) = decide (x ≤ 1099511627776) := by simp [h0]
    rw [e]
    have g0 : decide (0 ≤ x) = true := decide_eq_true h0
    go_enter Try.func15, Try.ntmps15
    go_wp2_with fail
    go_ret
    all_goals first | exact ⟨rfl, rfl⟩ | (simp_all; done) | skip
  · have e : decide (0 ≤ x ∧ x ≤ 1099511627776) = false := by simp [h0]
    rw [e]
    go_enter Try.func15, Try.ntmps15
    go_wp2_with fail
    go_ret
    all_goals first | exact ⟨rfl, rfl⟩ | (simp_all; done) | skip
theorem place_any (m : Nat) (w : World) (h : m ≤ 1000000) : Calls Try.prog 38 #[.int .i64 ((m + 1 : Nat) : Int)] w fun e w' => e = .returned (.int .i64 ((20 * m : Nat) : Int)) ∧ w = w' := by
  have e1 : IntKind.i64.wrap (((m + 1 : Nat) : Int) - 1) = (m : Int) := by rw [IntWalk.i64_in _ (by omega)]; omega
  have e2 : IntKind.i64.wrap ((m : Int) * 20) = ((20 * m : Nat) : Int) := by rw [IntWalk.i64_in _ (by omega)]; omega
  go_enter Try.func38, Try.ntmps38
  go_wp2_with fail
  go_ret
  all_goals first | exact ⟨rfl, rfl⟩ | (simp_all; done) | (refine ⟨?_, rfl⟩; rw [show (((m + 1 : Nat) : Int) - 1) = (m : Int) by omega]; congr 2; omega)
theorem strs_three (w : World) (s t u : ByteArray) : Strs (w.alloc (.cells #[.string s, .string t, .string u] 9)) 0 (.slice (some ⟨w.heap.size, 0, none⟩) 3 3) [s, t, u] :=
  ⟨some ⟨w.heap.size, 0, none⟩, 3, rfl, .inr ⟨_, _, rfl, Nat.zero_le _, fun i hi => by
    match i, hi with
    | 0, _ => simp
    | 1, _ => simp
    | 2, _ => simp⟩⟩
/-- A key's number. -/
def numK (t k : ByteArray) : Nat := hashF 0 (t.data.toList ++ 35 :: k.data.toList)
theorem numK_lt (t k : ByteArray) : numK t k < 4294967296 := hashF_lt (by decide) _
theorem number_any (t k : ByteArray) (w : World) (ht : t.size ≤ maxLen) (hk : k.size ≤ maxLen) : Calls Try.prog 16 #[.string t, .string k] w fun e w' => e = .returned (.int .i64 (numK t k : Nat)) ∧ Below w.heap.size w w' := by
  have e : numK t k = hashF 0 (flatB [t, ⟨#[35]⟩, k]) := by simp [numK, flatB]
  rw [e]
  have H := Lib.hid (hash_any _ _ _ (strs_three w t ⟨#[35]⟩ k) (by unfold maxLen; show 3 ≤ _; omega) (fun x hx => by
    simp only [List.mem_cons, List.not_mem_nil, or_false] at hx
    rcases hx with rfl | rfl | rfl
    · exact ht
    · show 1 ≤ maxLen; unfold maxLen; omega
    · exact hk))
  go_enter Try.func16, Try.ntmps16
  go_wp2_with fail
  refine H.out.mono ?_
  rintro e w2 ⟨rfl, rfl⟩
  go_wp2_with fail
  go_ret
  exact ⟨rfl, (Below.refl _ _).alloc (Nat.le_refl _) _⟩

set_option maxHeartbeats 1000000 in
theorem last_any {w0 w : World} {xb : Nat} {g : Gh} {st : St} {n : Nat} {R : List KE} (h : KxI w0 w xb g st n R) (hl : R.length ≤ 1000000) (b : Nat) (hb : b < 8) :
    Calls Try.prog 17 #[.pointer (some ⟨xb, 0, none⟩), .int .i64 (b : Nat)] w fun e w' => e = .returned (.tuple #[.int .i64 (lastR R b : Nat), .int .i64 0]) ∧ Below w.heap.size w w' := by
  obtain ⟨c0, _, _⟩ := h.cells
  obtain ⟨f, hf, hfb⟩ := h.slt
  have hR := dread_ok g st xS f (3 * b) 3 w h.disk.disk (by decide) h.calm.down hf (by omega) (by rw [hfb, slotsB_length]; omega) (by rw [hfb, slotsB_length]; omega)
  rw [hfb, slots_at R hb] at hR
  have e1 : IntKind.i64.wrap (3 * (b : Int)) = ((3 * b : Nat) : Int) := by rw [IntWalk.i64_in _ (by omega)]; omega
  have hle := lastR_le R b
  obtain ⟨v, hv⟩ : ∃ v, v = lastR R b := ⟨_, rfl⟩
  rw [← hv] at hR hle ⊢
  have hN := Oc.numS_read 3 v (by decide) (by decide) (by omega) []
  rw [List.append_nil] at hN
  obtain ⟨s, hs⟩ : ∃ s : ByteArray, s = ⟨(Oc.numB 3 v).toArray⟩ := ⟨_, rfl⟩
  rw [← hs] at hR hN
  have HR := Lib.hid hR
  have HN := Lib.hid hN
  clear hR hN hs hf hfb h hv hle
  go_enter Try.func17, Try.ntmps17
  go_wp2_with fail
  refine HR.out.mono ?_
  rintro e w2 ⟨rfl, hb2⟩
  have HB2 := Lib.hid hb2
  clear hb2
  go_wp2_with fail
  refine (Oc.new_any s w2).mono ?_
  rintro e w3 ⟨rfl, rfl⟩
  have hrd : Oc.Rd (w2.alloc (.cells #[.string s, .int .i64 0] 113)) w2.heap.size s 0 := heap_alloc_new w2 _
  have HC := Lib.hid (Oc.num_any _ s 3 _ hrd HN.out)
  have HB3 := Lib.hid (HB2.out.alloc HB2.out.size (.cells #[.string s, .int .i64 0] 113))
  clear hrd
  go_wp2_with fail
  refine HC.out.mono ?_
  rintro e w4 ⟨rfl, _, hg⟩
  have hB4 := below_grown' HB3.out hg (Nat.le_refl _) HB2.out.size
  go_wp2_with fail
  go_ret2
  exact ⟨rfl, hB4⟩
end Go.Proofs.Ytmmnoieafndgjaa

namespace Go.Proofs.Ytmmnoieafndgjaa
open Go.RowKit Go.Deep
set_option linter.unusedVariables false
set_option linter.unusedSimpArgs false

def linkV (k : KE) (a : Nat) : Value := .agg #[.int .i64 (k.h : Nat), .int .i64 (k.at_ : Nat), .int .i64 (k.born : Nat), .int .i64 (a : Nat)]
theorem getLink_back (k : KE) (hk : k.ok) (a : Nat) (ha : a < 16777216) (w : World) :
    Calls Try.prog 67 #[.string ⟨(bytesK linkW (linkXs k a) 4).toArray⟩] w fun e w' => e = .returned (.tuple #[linkV k a, .bool true]) ∧ Below w.heap.size w w' := by
  have hf := link_fit hk ha
  have e : put4 linkW (linkXs k a) = ⟨(bytesK linkW (linkXs k a) 4).toArray⟩ := by unfold put4; rw [hf]; rfl
  obtain ⟨h1, h2⟩ := put_back hf
  rw [e] at h1 h2
  have := linkGet_any ⟨(bytesK linkW (linkXs k a) 4).toArray⟩ w
  unfold GetPost at this
  rw [show ([5, 6, 6, 3] : List Nat) = linkW from rfl, h1, h2 0 (by decide), h2 1 (by decide), h2 2 (by decide), h2 3 (by decide)] at this
  exact this
set_option maxHeartbeats 2000000 in
set_option maxRecDepth 100000 in
theorem link_any {w0 w : World} {xb : Nat} {g : Gh} {st : St} {n : Nat} {R : List KE} (h : KxI w0 w xb g st n R) (hl : R.length ≤ 1000000) (p : List KE) (k : KE) (r : List KE) (hR : R = p ++ k :: r) :
    Calls Try.prog 39 #[.pointer (some ⟨xb, 0, none⟩), .int .i64 ((r.length + 1 : Nat) : Int)] w fun e w' => e = .returned (.tuple #[linkV k (lastR r (k.h % 8)), .int .i64 0]) ∧ Below w.heap.size w w' := by
  obtain ⟨c0, _, _⟩ := h.cells
  obtain ⟨f, hf, hfb⟩ := h.lnk
  have hlen : R.length = p.length + (r.length + 1) := by rw [hR, List.length_append, List.length_cons]
  have hle := lastR_le r (k.h % 8)
  have hD : ∀ W, Below w.heap.size w W → Calls Try.prog 33 #[.pointer (some ⟨g.d, 0, none⟩), .string xL, .int .i64 ((20 * r.length : Nat) : Int), .int .i64 20] W fun e w' => e = .returned (.tuple #[.string ⟨(bytesK linkW (linkXs k (lastR r (k.h % 8))) 4).toArray⟩, .int .i64 0]) ∧ Below W.heap.size W w' := fun W hW => by
    have := dread_ok g st xL f (20 * r.length) 20 W (h.disk.disk.new (Chg.of_below hW)) (by decide) h.calm.down hf (by omega) (by rw [hfb, linksB_length]; omega) (by rw [hfb, linksB_length]; omega)
    rw [hfb, hR, links_at] at this
    exact this
  have hG := fun W => getLink_back k (h.ok k (by rw [hR]; simp)) (lastR r (k.h % 8)) (by omega) W
  obtain ⟨a, ha⟩ : ∃ a, a = lastR r (k.h % 8) := ⟨_, rfl⟩
  obtain ⟨s, hs⟩ : ∃ s : ByteArray, s = ⟨(bytesK linkW (linkXs k (lastR r (k.h % 8))) 4).toArray⟩ := ⟨_, rfl⟩
  rw [← hs] at hG
  simp only [← hs] at hD
  obtain ⟨t, ht⟩ : ∃ t, t = 20 * r.length := ⟨_, rfl⟩
  obtain ⟨nn, hnn⟩ : ∃ nn : Int, nn = ((r.length + 1 : Nat) : Int) := ⟨_, rfl⟩
  have HP : Hid (∀ W, Calls Try.prog 38 #[.int .i64 nn] W fun e w' => e = .returned (.int .i64 (t : Int)) ∧ W = w') := Lib.hid (fun W => by rw [hnn, ht]; exact place_any r.length W (by omega))
  rw [← ht] at hD
  rw [← ha] at hG ⊢
  rw [← hnn]
  obtain ⟨kh, ka, kb⟩ := k
  unfold linkV at hG ⊢
  dsimp only at hG ⊢
  have HG := Lib.hid hG
  have HR := Lib.hid hD
  obtain ⟨W0, hW0⟩ : ∃ W, W = w.alloc (.cells #[.int .i64 0, .int .i64 0, .int .i64 0, .int .i64 0] 54) := ⟨_, rfl⟩
  have hb0 : Below w.heap.size w W0 := hW0 ▸ (Below.refl _ _).alloc (Nat.le_refl _) _
  have k0 := (hb0.cell (p := ⟨xb, 0, none⟩) h.lt).trans c0
  have HZ : Hid (W0.rowIs w.heap.size 54 4 (fun _ => .int .i64 0)) := Lib.hid (hW0 ▸ row4 w 54)
  have HB0 := Lib.hid hb0
  have HW0 := Lib.hid hW0
  clear h hl hR hf hfb hlen hle hD hG ha hs ht hnn c0 hb0 hW0
  go_enter Try.func39, Try.ntmps39
  go_upto_region 1 with fail
  rw [← HW0.out]
  go_cut [6, 7] (fun v6 v7 wx => v6 = .string s ∧ v7 = .int .i64 0 ∧ Below W0.heap.size W0 wx)
  case first =>
    go_region_held3 (fun w' => w'.cell? ⟨xb, 0, none⟩ = some (.pointer (some ⟨g.d, 0, none⟩)))
      (first | exact k0 | go_keep)
      (first
        | (go_at_call 38
           refine (HP.out _).mono ?_
           rintro e w2 ⟨rfl, rfl⟩)
        | (go_at_call 33
           refine (HR.out _ ?_).mono ?_
           · repeat (first | exact HB0.out | with_reducible refine Below.drew ?_ | with_reducible refine Below.drewN ?_ _)
           rintro e w2 ⟨rfl, hb2⟩
           have k0 := keep4 hb2 k0
           have HB2 := Lib.hid hb2
           clear hb2))
    all_goals
      go_wp2_with fail
      go_meet
      case rel => exact ⟨rfl, rfl, by repeat (first | exact Below.refl _ _ | with_reducible refine below_drewN ?_ _ | with_reducible refine Below.drew ?_ | refine below_on HB2.out ?_ (Nat.le_refl _))⟩
  case rest =>
    obtain ⟨rfl, rfl, hb1⟩ := hcut
    have HB1 := Lib.hid (HB0.out.trans (hb1.mono HB0.out.size))
    have HZ1 := Lib.hid (HZ.out.of_block (hb1.block _ HZ.out.lt))
    have HGG := Lib.hid (fun W => HG.out W)
    clear hb1 k0
    go_wp2_with fail
    refine (HG.out _).mono ?_
    rintro e w2 ⟨rfl, hb2⟩
    have hr2 := HZ1.out.of_block (hb2.block _ HZ1.out.lt)
    have HB2 := Lib.hid (HB1.out.trans (hb2.mono HB1.out.size))
    have hr3 := hr2
    have HR2 := Lib.hid hr2
    clear hb2 hr2 hr3
    obtain ⟨W2, hW2⟩ : ∃ W, W = w2.alloc (.cells #[.int .i64 kh, .int .i64 ka, .int .i64 kb, .int .i64 a] 54) := ⟨_, rfl⟩
    have hlt := HR2.out.lt
    have hrow2 : W2.rowIs w.heap.size 54 4 (fun _ => .int .i64 0) := HR2.out.of_block (by rw [hW2]; exact (((Below.refl w2.heap.size w2).alloc (Nat.le_refl _) _).block _ hlt))
    have q0 : ∀ i, i < 4 → W2.cell? ⟨w.heap.size, i, none⟩ = some (.int .i64 0) := fun i hi => hrow2.cell (i := i) hi
    have hfz : ∀ i, W2.frozen? ⟨w.heap.size, i, none⟩ = false := fun i => hrow2.frozen i
    have hB2' : Below w.heap.size w W2 := by rw [hW2]; exact HB2.out.alloc HB2.out.size _
    have r0 := q0 0 (by decide)
    have r1 := q0 1 (by decide)
    have r2 := q0 2 (by decide)
    have r3 := q0 3 (by decide)
    have f0 := hfz 0
    have f1 := hfz 1
    have f2 := hfz 2
    have f3 := hfz 3
    have s0 : W2.cell? ⟨w2.heap.size, 0, none⟩ = some (.int .i64 kh) := by rw [hW2]; simp
    have s1 : W2.cell? ⟨w2.heap.size, 1, none⟩ = some (.int .i64 ka) := by rw [hW2]; simp
    have s2 : W2.cell? ⟨w2.heap.size, 2, none⟩ = some (.int .i64 kb) := by rw [hW2]; simp
    have s3 : W2.cell? ⟨w2.heap.size, 3, none⟩ = some (.int .i64 a) := by rw [hW2]; simp
    have HW2 := Lib.hid hW2
    have HROW := Lib.hid hrow2
    have HB3 := Lib.hid hB2'
    clear hW2 hrow2 hB2' q0 hfz
    go_upto_region 5 with fail
    rw [← HW2.out]
    go_wp2_with fail
    obtain ⟨W4, hW4⟩ : ∃ W, W = (((W2.setCell ⟨w.heap.size, 0, none⟩ (.int .i64 (kh : Int))).setCell ⟨w.heap.size, 1, none⟩ (.int .i64 (ka : Int))).setCell ⟨w.heap.size, 2, none⟩ (.int .i64 (kb : Int))).setCell ⟨w.heap.size, 3, none⟩ (.int .i64 (a : Int)) := ⟨_, rfl⟩
    have hB4 := below_set4 HB3.out (Nat.le_refl _) hW4
    obtain ⟨e0, e1, e2, e3⟩ := set4 HROW.out _ _ _ _ hW4
    rw [← hW4]
    refine bodyPost_ret (v := .tuple #[.agg #[.int .i64 (kh : Int), .int .i64 (ka : Int), .int .i64 (kb : Int), .int .i64 (a : Int)], .int .i64 0]) ?_ rfl ⟨rfl, hB4⟩
    clear hW4 hB4 r0 r1 r2 r3 f0 f1 f2 f3 s0 s1 s2 s3 hlt
    simp [results, Try.results39, go_sem, e0, e1, e2, e3]
end Go.Proofs.Ytmmnoieafndgjaa

namespace Go.Proofs.Ytmmnoieafndgjaa
open Go.RowKit Go.Deep
set_option linter.unusedVariables false
set_option linter.unusedSimpArgs false

theorem calm_writeA {n : Nat} {st : St} (h : Calm n st) {nm : ByteArray} {f : FileM} {a : Nat} {s : ByteArray} (hf : st.find nm = some f) (ha : a ≤ f.bytes.length) (hm : more f a s.size ≤ st.cap - st.size) (h0 : s.size ≠ 0) :
    writeE st nm a s = 0 ∧ writeS st nm a s = { st with size := st.size + more f a s.size, turn := st.turn + 1, fs := setF st.fs nm (addF f ⟨(st.turn : Int) + 1, a, s⟩) } ∧ Calm (n + 1) (writeS st nm a s) := by
  have e2 : writeS st nm a s = { st with size := st.size + more f a s.size, turn := st.turn + 1, fs := setF st.fs nm (addF f ⟨(st.turn : Int) + 1, a, s⟩) } := by
    unfold writeS
    rw [if_neg (by rw [h.down]; simp), hf]
    simp only [Int.toNat_natCast]
    rw [if_neg (by omega), if_neg (by omega), if_pos h.burnE, if_neg h0, h.burnS]
  refine ⟨?_, e2, h.good.write nm a s, by rw [e2]; exact h.lit, by rw [e2]; exact h.down⟩
  unfold writeE
  rw [if_neg (by rw [h.down]; simp), hf]
  simp only [Int.toNat_natCast]
  rw [if_neg (by omega), if_neg (by omega), h.burnE]
theorem findS_other {st : St} {a b : ByteArray} {f : FileM} {sz tn : Nat} (hab : a ≠ b) : St.find { st with size := sz, turn := tn, fs := setF st.fs b f } a = st.find a := by
  unfold St.find
  have : (setF st.fs b f).find? (fun p => decide (p.1 = a)) = st.fs.find? (fun p => decide (p.1 = a)) := by
    unfold setF
    induction st.fs with
    | nil => rfl
    | cons p l ih =>
      rw [List.map_cons, List.find?_cons, List.find?_cons]
      by_cases hb : p.1 = b
      · rw [if_pos hb]
        have h1 : decide (b = a) = false := decide_eq_false (fun hx => hab hx.symm)
        have h2 : decide (p.1 = a) = false := decide_eq_false (fun hx => hab (hx ▸ hb))
        simp only [h1, h2]
        exact ih
      · rw [if_neg hb]
        cases decide (p.1 = a)
        · exact ih
        · rfl
  show ((setF st.fs b f).find? _).map _ = _
  rw [this]
theorem findS_same {st : St} {a : ByteArray} {f f' : FileM} {sz tn : Nat} (h : st.find a = some f) : St.find { st with size := sz, turn := tn, fs := setF st.fs a f' } a = some f' := by
  unfold St.find at h ⊢
  show ((setF st.fs a f').find? _).map _ = _
  unfold setF
  generalize st.fs = l at h
  induction l with
  | nil => cases h
  | cons p l ih =>
    rw [List.map_cons, List.find?_cons]
    rw [List.find?_cons] at h
    by_cases hb : p.1 = a
    · rw [if_pos hb]
      simp
    · rw [if_neg hb]
      rw [decide_eq_false hb] at h ⊢
      exact ih h
/-- What a call on the index leaves of the rest. -/
structure KTo (xb : Nat) (w : World) (g g' : Gh) (w' : World) : Prop where
  chg : Chg (fun q => q = xb ∨ q ∈ g.fp) w w'
  fp : ∀ q ∈ g'.fp, q ∈ g.fp ∨ w.heap.size ≤ q
  d : g'.d = g.d
theorem KTo.of {xb : Nat} {w : World} {g g' : Gh} {w' : World} (h : Gh.To w g g' w') : KTo xb w g g' w' := ⟨h.chg.wide (fun _ _ x => .inr x), h.fp, h.d⟩
theorem KTo.refl (xb : Nat) (w : World) (g : Gh) : KTo xb w g g w := ⟨Chg.refl _ _, fun _ h => .inl h, rfl⟩
theorem KTo.new {xb : Nat} {w w' : World} (g : Gh) (hc : Chg (fun _ => False) w w') : KTo xb w g g w' := ⟨hc.wide (fun _ _ x => x.elim), fun _ h => .inl h, rfl⟩
theorem KTo.trans {xb : Nat} {w w1 w2 : World} {g g1 g2 : Gh} (h : KTo xb w g g1 w1) (k : KTo xb w1 g1 g2 w2) : KTo xb w g g2 w2 := by
  have hs := h.chg.size
  refine ⟨h.chg.trans k.chg (fun i hi hx => ?_), fun i hi => ?_, k.d.trans h.d⟩
  · rcases hx with hx | hx
    · exact .inl hx
    · rcases h.fp i hx with h1 | h1
      · exact .inr h1
      · omega
  · rcases k.fp i hi with h1 | h1
    · exact h.fp i h1
    · exact .inr (by omega)
def KAddTo (w0 w : World) (xb : Nat) (g : Gh) (st : St) (n : Nat) (R : List KE) (e : Ending) (w' : World) : Prop :=
  e = .returned (.int .i64 0) ∧ ∃ g' st', KxI w0 w' xb g' st' (n + 2) R ∧ KTo xb w g g' w' ∧ st'.cap = st.cap
set_option maxHeartbeats 4000000 in
set_option maxRecDepth 100000 in
theorem kadd_any {w0 w : World} {xb : Nat} {g : Gh} {st : St} {n : Nat} {R : List KE} (h : KxI w0 w xb g st n R) (hn : n ≤ 1000000) (hl : R.length ≤ 100000) (k : KE) (hk : k.ok) (hcap : st.size + 20 ≤ st.cap) :
    Calls Try.prog 18 #[.pointer (some ⟨xb, 0, none⟩), linkV k (lastR R (k.h % 8))] w (KAddTo w0 w xb g st n (k :: R)) := by
  obtain ⟨c0, c1, hz⟩ := h.cells
  have hle := lastR_le R (k.h % 8)
  obtain ⟨a, ha⟩ : ∃ a, a = lastR R (k.h % 8) := ⟨_, rfl⟩
  have hfit := link_fit hk (a := a) (by omega)
  have hput : put4 linkW (linkXs k a) = ⟨(bytesK linkW (linkXs k a) 4).toArray⟩ := by unfold put4; rw [hfit]; rfl
  obtain ⟨f1, hf1, hfb1⟩ := h.lnk
  obtain ⟨f2, hf2, hfb2⟩ := h.slt
  obtain ⟨s1, hs1⟩ : ∃ s : ByteArray, s = ⟨(bytesK linkW (linkXs k a) 4).toArray⟩ := ⟨_, rfl⟩
  obtain ⟨s2, hs2⟩ : ∃ s : ByteArray, s = ⟨(Oc.numB 3 (R.length + 1)).toArray⟩ := ⟨_, rfl⟩
  have hd1 : s1.data.toList = bytesK linkW (linkXs k a) 4 := by rw [hs1]
  have hd2 : s2.data.toList = Oc.numB 3 (R.length + 1) := by rw [hs2]
  have hz1 : s1.size = 20 := by rw [← text_len, hd1, link_size]
  have hz2 : s2.size = 3 := by rw [← text_len, hd2, Oc.numB_length]
  have hL1 := linksB_length R
  have hL2 := slotsB_length R
  have hb8 : k.h % 8 < 8 := Nat.mod_lt _ (by decide)
  obtain ⟨e1, e2, e3⟩ := calm_writeA h.calm (a := 20 * R.length) (s := s1) hf1 (by rw [hfb1]; omega) (by unfold more; rw [hfb1]; omega) (by omega)
  have hm1 : more f1 (20 * R.length) s1.size = 20 := by unfold more; rw [hfb1]; omega
  rw [hm1] at e2
  obtain ⟨st1, hst1⟩ : ∃ s, s = writeS st xL ((20 * R.length : Nat) : Int) s1 := ⟨_, rfl⟩
  rw [← hst1] at e2 e3
  have q1 : st1.find xL = some (addF f1 ⟨(st.turn : Int) + 1, 20 * R.length, s1⟩) := by rw [e2]; exact findS_same hf1
  have q2 : st1.find xS = some f2 := by rw [e2, findS_other (Ne.symm xLS)]; exact hf2
  have q3 : st1.size = st.size + 20 := by rw [e2]
  have q4 : st1.cap = st.cap := by rw [e2]
  have q5 : (addF f1 ⟨(st.turn : Int) + 1, 20 * R.length, s1⟩).bytes = linksB (k :: R) := by
    show putB f1.bytes (20 * R.length) s1.data.toList = _
    rw [hfb1, hd1, ha, links_put]
  obtain ⟨e4, e5, e6⟩ := calm_writeA e3 (a := 3 * (k.h % 8)) (s := s2) q2 (by rw [hfb2]; omega) (by unfold more; rw [hfb2]; omega) (by omega)
  have hm2 : more f2 (3 * (k.h % 8)) s2.size = 0 := by unfold more; rw [hfb2]; omega
  rw [hm2] at e5
  obtain ⟨st2, hst2⟩ : ∃ s, s = writeS st1 xS ((3 * (k.h % 8) : Nat) : Int) s2 := ⟨_, rfl⟩
  rw [← hst2] at e5 e6
  have q6 : st2.find xS = some (addF f2 ⟨(st1.turn : Int) + 1, 3 * (k.h % 8), s2⟩) := by rw [e5]; exact findS_same q2
  have q7 : st2.find xL = some (addF f1 ⟨(st.turn : Int) + 1, 20 * R.length, s1⟩) := by rw [e5, findS_other xLS]; exact q1
  have q8 : st2.size = st.size + 20 := by rw [e5]; exact q3
  have q9 : st2.cap = st.cap := by rw [e5]; exact q4
  have q10 : (addF f2 ⟨(st1.turn : Int) + 1, 3 * (k.h % 8), s2⟩).bytes = slotsB (k :: R) := by
    show putB f2.bytes (3 * (k.h % 8)) s2.data.toList = _
    rw [hfb2, hd2, slots_put]
  have hWr1 : ∀ W, DiskAt W g st → Calls Try.prog 24 #[.pointer (some ⟨g.d, 0, none⟩), .string xL, .int .i64 ((20 * R.length : Nat) : Int), .string s1] W (OpTo g 0 st1 W) := fun W hW => by
    have := write_any g st xL ((20 * R.length : Nat) : Int) s1 W hW (by decide) h.calm.good.fuse (by omega) h.calm.good.cap h.calm.good.size (by have := h.calm.good.turn; omega) (fun f hf => by
      rw [hf1] at hf; cases hf
      exact ⟨by rw [hfb1]; omega, by have := (h.calm.good.file hf1).count; omega⟩)
    rw [e1, ← hst1] at this
    exact this
  have hWr2 : ∀ g1 W, DiskAt W g1 st1 → g1.d = g.d → Calls Try.prog 24 #[.pointer (some ⟨g.d, 0, none⟩), .string xS, .int .i64 ((3 * (k.h % 8) : Nat) : Int), .string s2] W (OpTo g1 0 st2 W) := fun g1 W hW hg => by
    have := write_any g1 st1 xS ((3 * (k.h % 8) : Nat) : Int) s2 W hW (by decide) e3.good.fuse (by omega) e3.good.cap e3.good.size (by have := e3.good.turn; omega) (fun f hf => by
      rw [q2] at hf; cases hf
      exact ⟨by rw [hfb2]; omega, by have := (e3.good.file q2).count; omega⟩)
    rw [e4, ← hst2, hg] at this
    exact this
  have hPut : ∀ W, Calls Try.prog 36 #[.agg #[.int .i64 (k.h : Nat), .int .i64 (k.at_ : Nat), .int .i64 (k.born : Nat), .int .i64 (a : Nat)]] W fun e w' => e = .returned (.tuple #[.string s1, .bool true]) ∧ Below W.heap.size W w' := fun W => by
    have := linkPut_any (k.h : Nat) (k.at_ : Nat) (k.born : Nat) (a : Nat) W
    unfold PutPost at this
    rw [show put4 [5, 6, 6, 3] [((k.h : Nat) : Int), ((k.at_ : Nat) : Int), ((k.born : Nat) : Int), ((a : Nat) : Int)] = s1 from by rw [hs1]; exact hput, show fit4 [5, 6, 6, 3] [((k.h : Nat) : Int), ((k.at_ : Nat) : Int), ((k.born : Nat) : Int), ((a : Nat) : Int)] = true from hfit] at this
    exact this
  have hNum : ∀ W v, Oc.Ints W v [((R.length + 1 : Nat) : Int)] → Calls Try.prog 37 #[.int .i64 3, v] W fun e w' => e = .returned (.tuple #[.string s2, .int .i64 0]) ∧ Below W.heap.size W w' := fun W v hv => by
    have := Oc.numS_ok 3 v [((R.length + 1 : Nat) : Int)] W (by decide) (by decide) (by show 1 ≤ _; omega) hv (fun x hx => by
      rw [List.mem_singleton.1 hx]
      exact ⟨Int.natCast_nonneg _, by show ((R.length + 1 : Nat) : Int) < 16777216; omega⟩)
    have e : Oc.numsB 3 [((R.length + 1 : Nat) : Int)] = Oc.numB 3 (R.length + 1) := by
      unfold Oc.numsB
      rw [List.flatMap_cons, List.flatMap_nil, List.append_nil, Int.toNat_natCast]
    rw [e, ← hs2] at this
    exact this
  have hend : ∀ (w5 : World) (g5 : Gh), DiskAt w5 g5 st2 → Gh.To w g g5 w5 → KAddTo w0 w xb g st n (k :: R) (.returned (.int .i64 0)) (w5.setCell ⟨xb, 1, none⟩ (.int .i64 ((R.length + 1 : Nat) : Int))) := fun w5 g5 d5 t => by
    have hlt := h.lt
    have hsz := t.chg.size
    have hsz0 := h.disk.chg.size
    have hout5 : xb ∉ g5.fp := fun hx => by
      rcases t.fp xb hx with h1 | h1
      · exact h.out h1
      · omega
    have hc5 := t.chg.heap h.cell h.out
    have hset : Chg (fun q => q = xb) w5 (w5.setCell ⟨xb, 1, none⟩ (.int .i64 ((R.length + 1 : Nat) : Int))) := Chg.setCell (S := fun q => q = xb) (p := ⟨xb, 1, none⟩) (Chg.refl _ _) (fun _ => rfl) _
    have hall : Chg (fun _ => False) w0 (w5.setCell ⟨xb, 1, none⟩ (.int .i64 ((R.length + 1 : Nat) : Int))) := (h.disk.chg.trans t.chg (fun i hi hx => by have := h.disk.low i hx; omega)).trans hset (fun i hi hx => by have := h.low; omega)
    refine ⟨rfl, g5, st2, ⟨⟨d5.chg hset (fun q hq hx => hout5 (hx ▸ hq)), rfl, hall, fun q hq => ?_⟩, e6, ?_, h.low, hout5, ⟨_, q7, q5⟩, ⟨_, q6, q10⟩, ?_, ?_⟩, ⟨(t.chg.wide (fun _ _ x => .inr x)).trans hset (fun i hi hx => .inl hx), t.fp, t.d⟩, q9⟩
    · rcases t.fp q hq with a1 | a1
      · exact h.disk.low q a1
      · omega
    · have := heap_setCell_same w5 xb 1 _ _ (.int .i64 ((R.length + 1 : Nat) : Int)) hc5
      rw [t.d]
      exact this
    · rw [q8, h.size, List.length_cons]; omega
    · intro x hx
      rcases List.mem_cons.1 hx with rfl | hx
      · exact hk
      · exact h.ok x hx
  have hkeep : ∀ (W : World) (g' : Gh), Gh.To w g g' W → W.cell? ⟨xb, 0, none⟩ = some (.pointer (some ⟨g.d, 0, none⟩)) ∧ W.frozen? ⟨xb, 1, none⟩ = false ∧ W.cell? ⟨xb, 1, none⟩ = some (.int .i64 (R.length : Nat)) := fun W g' t => by
    have := t.chg.heap h.cell h.out
    exact ⟨by simp [World.cell?, this], by simp [World.frozen?, this], by simp [World.cell?, this]⟩
  have hD0 := h.disk.disk
  have hlt := h.lt
  have e7 : IntKind.i64.wrap ((R.length : Int) + 1) = ((R.length + 1 : Nat) : Int) := by rw [IntWalk.i64_in _ (by omega)]; omega
  have hmod : ((k.h : Int).tmod 8) = ((k.h % 8 : Nat) : Int) := by rw [Int.tmod_eq_emod_of_nonneg (by omega)]; omega
  have e8 : IntKind.i64.wrap (3 * ((k.h % 8 : Nat) : Int)) = ((3 * (k.h % 8) : Nat) : Int) := by rw [IntWalk.i64_in _ (by omega)]; omega
  have HPL : Hid (∀ W, Calls Try.prog 38 #[.int .i64 ((R.length + 1 : Nat) : Int)] W fun e w' => e = .returned (.int .i64 ((20 * R.length : Nat) : Int)) ∧ W = w') := Lib.hid (fun W => place_any R.length W (by omega))
  obtain ⟨N, hN⟩ : ∃ N : Int, N = ((R.length + 1 : Nat) : Int) := ⟨_, rfl⟩
  obtain ⟨P1, hP1⟩ : ∃ N : Int, N = ((20 * R.length : Nat) : Int) := ⟨_, rfl⟩
  obtain ⟨P2, hP2⟩ : ∃ N : Int, N = ((3 * (k.h % 8) : Nat) : Int) := ⟨_, rfl⟩
  obtain ⟨M, hM⟩ : ∃ N : Int, N = ((k.h % 8 : Nat) : Int) := ⟨_, rfl⟩
  obtain ⟨C, hC⟩ : ∃ N : Int, N = (R.length : Int) := ⟨_, rfl⟩
  rw [← ha]
  unfold linkV
  obtain ⟨kh, ka, kb⟩ := k
  dsimp only at *
  rw [← hN] at hend hNum e7
  rw [← hP1] at hWr1
  simp only [← hP2] at hWr2
  rw [← hP1, ← hN] at HPL
  rw [← hP2, ← hM] at e8
  rw [← hM] at hmod
  rw [← hC] at e7 c1
  have HEND := Lib.hid hend
  have HKEEP := Lib.hid hkeep
  have HPUT := Lib.hid hPut
  have HNUM := Lib.hid hNum
  have HW1 := Lib.hid hWr1
  have HW2 := Lib.hid hWr2
  have HD0 := Lib.hid hD0
  obtain ⟨W0, hW0⟩ : ∃ W, W = w.alloc (.cells #[.int .i64 (kh : Int), .int .i64 (ka : Int), .int .i64 (kb : Int), .int .i64 (a : Int)] 54) := ⟨_, rfl⟩
  have hb0 : Below w.heap.size w W0 := hW0 ▸ (Below.refl _ _).alloc (Nat.le_refl _) _
  have k0 := (hb0.cell (p := ⟨xb, 0, none⟩) hlt).trans c0
  have k1 := (hb0.cell (p := ⟨xb, 1, none⟩) hlt).trans c1
  have j0 : W0.cell? ⟨w.heap.size, 0, none⟩ = some (.int .i64 (kh : Int)) := by rw [hW0]; simp
  have j1 : W0.cell? ⟨w.heap.size, 1, none⟩ = some (.int .i64 (ka : Int)) := by rw [hW0]; simp
  have j2 : W0.cell? ⟨w.heap.size, 2, none⟩ = some (.int .i64 (kb : Int)) := by rw [hW0]; simp
  have j3 : W0.cell? ⟨w.heap.size, 3, none⟩ = some (.int .i64 (a : Int)) := by rw [hW0]; simp
  have HW0 := Lib.hid hW0
  have HB0 := Lib.hid hb0
  have HXL : Hid (xb < w.heap.size) := Lib.hid hlt
  clear hend hkeep hPut hNum hWr1 hWr2 hD0 hW0 hb0 c0 c1 h hn hl hk hcap hz hle ha hfit hput hf1 hfb1 hf2 hfb2 hs1 hs2 hd1 hd2 hz1 hz2 hL1 hL2 hb8 e1 e2 e3 hm1 hst1 q1 q2 q3 q4 q5 e4 e5 e6 hm2 hst2 q6 q7 q8 q9 q10 hlt hN hP1 hP2 hM hC
  go_enter Try.func18, Try.ntmps18
  go_upto_region 1 with fail
  rw [← HW0.out]
  go_wp2_with fail
  refine (HPUT.out _).mono ?_
  rintro e w2 ⟨rfl, hb2⟩
  have k0 := keep4 hb2 k0
  have j0 := keep4 hb2 j0
  have HB2 := Lib.hid (below_on hb2 HB0.out (Nat.le_refl _))
  clear hb2 k1 j1 j2 j3
  go_wp2_with fail
  have hI : Oc.Ints (w2.alloc (.cells #[.int .i64 N] 3)) (.slice (some ⟨w2.heap.size, 0, none⟩) 1 1) [N] := ⟨_, _, rfl, .inr ⟨w2.heap.size, 0, rfl, fun i hi => by
    obtain rfl : i = 0 := by simp at hi; exact hi
    simp⟩⟩
  refine (HNUM.out _ _ hI).mono ?_
  rintro e w3 ⟨rfl, hb3⟩
  have hb3' : Below w2.heap.size w2 w3 := ((Below.refl w2.heap.size w2).alloc (Nat.le_refl _) _).trans (hb3.mono (by rw [World.size_alloc]; omega))
  have k0 := keep4 hb3' k0
  have j0 := keep4 hb3' j0
  have HB3 := Lib.hid (below_on hb3' HB2.out (Nat.le_refl _))
  clear hb3 hb3' hI
  go_upto_region 4 with fail
  go_still_tail 7, (by kernel_rfl)
  still_call ((HPL.out _).mono fun _ _ h => ⟨h.1, h.2.symm⟩)
  repeat still_step
  refine wpStill_nil ?_
  change wpList _ _ _ _ _ w3.drew
  have HB4 := Lib.hid (HB3.out.drew)
  have k0 : w3.drew.cell? ⟨xb, 0, none⟩ = some (.pointer (some ⟨g.d, 0, none⟩)) := k0
  have j0 : w3.drew.cell? ⟨w.heap.size, 0, none⟩ = some (.int .i64 (kh : Int)) := j0
  generalize w3.drew = w4 at HB4 k0 j0 ⊢
  have HW1' := Lib.hid (HW1.out w4 (HD0.out.new (Chg.of_below HB4.out)))
  go_wp2_with fail
  refine HW1'.out.mono ?_
  rintro e w5 ⟨rfl, g5, hd5, ht5⟩
  have ht := (Gh.To.new g (Chg.of_below HB4.out : Chg (fun _ => False) w w4)).trans ht5
  obtain ⟨k0, z1, k1⟩ := HKEEP.out w5 g5 ht
  have j0 : w5.cell? ⟨w.heap.size, 0, none⟩ = some (.int .i64 (kh : Int)) := ht5.chg.cell (p := ⟨w.heap.size, 0, none⟩) j0 (fun hx => Nat.lt_irrefl _ (HD0.out.lt _ hx))
  have HD5 := Lib.hid hd5
  have HT5 := Lib.hid ht
  clear hd5 ht5 ht
  go_wp2_with fail
  go_still_tail 9, (by kernel_rfl)
  change wpList _ _ _ _ _ w5.drew
  have HD6 := Lib.hid (HD5.out.drew)
  have HT6 := Lib.hid (HT5.out.trans (Gh.To.new g5 (Chg.refl (fun _ => False) w5).drew))
  generalize w5.drew = w6 at HD6 HT6 ⊢
  have HW2' := Lib.hid (HW2.out g5 w6 HD6.out HT6.out.d)
  go_wp2_with fail
  refine HW2'.out.mono ?_
  rintro e w7 ⟨rfl, g7, hd7, ht7⟩
  have ht := HT6.out.trans ht7
  obtain ⟨k0, z1, k1⟩ := HKEEP.out w7 g7 ht
  have HE := Lib.hid (HEND.out w7 g7 hd7 ht)
  clear hd7 ht7 ht
  go_wp2_with fail
  go_ret
  exact HE.out
end Go.Proofs.Ytmmnoieafndgjaa

namespace Go.Proofs.Ytmmnoieafndgjaa
open Go.RowKit Go.Deep
set_option linter.unusedVariables false
set_option linter.unusedSimpArgs false

/-- What along asks of its closure: from a state on, in which only new blocks came since, it takes one step, and writes into older blocks of its own alone. -/
def OnOk {α : Type} (w1 : World) (fn : Nat) (caps : Array Value) (K : List KE → α → Prop) (J : α → World → Prop) (stp : Nat → KE → α → Bool × α) (b : Nat) (R : List KE) : Prop :=
  ∀ (p : List KE) (k : KE) (r : List KE) (a : α) (W W' : World), R = p ++ k :: r → k.h % 8 = b → K (k :: r) a → J a W → Chg (fun _ => False) W W' → Chg (fun q => w1.heap.size ≤ q) w1 W →
    Calls Try.prog fn (#[.int .i64 ((r.length + 1 : Nat) : Int), linkV k (lastR r b)] ++ caps) W' fun e W'' => e = .returned (.bool (stp (r.length + 1) k a).1) ∧ J (stp (r.length + 1) k a).2 W'' ∧ Chg (fun q => w1.heap.size ≤ q ∧ q < W.heap.size) W' W''
def AlongTo {α : Type} (w1 : World) (J : α → World → Prop) (z : α) (e : Ending) (w' : World) : Prop := e = .returned (.int .i64 0) ∧ J z w' ∧ Chg (fun q => w1.heap.size ≤ q) w1 w'
theorem wide_two {w1 W : World} {a b : World} (h : Chg (fun q => w1.heap.size ≤ q) w1 a) (k : Chg (fun q => w1.heap.size ≤ q ∧ q < W.heap.size) a b) : Chg (fun q => w1.heap.size ≤ q) w1 b := h.trans k (fun _ _ x => x.1)
theorem wide_no {w1 : World} {a b : World} (h : Chg (fun q => w1.heap.size ≤ q) w1 a) (k : Chg (fun _ => False) a b) : Chg (fun q => w1.heap.size ≤ q) w1 b := h.trans k (fun _ _ x => x.elim)
theorem KxI.later {w0 w1 w : World} {xb : Nat} {g : Gh} {st : St} {n : Nat} {R : List KE} (h : KxI w0 w1 xb g st n R) (hc : Chg (fun q => w1.heap.size ≤ q) w1 w) : KxI w0 w xb g st n R :=
  h.chg hc (by have := h.lt; omega) (fun q hq => by have := h.disk.disk.lt q hq; omega) (fun q hq => by have := h.disk.chg.size; omega)
set_option maxHeartbeats 4000000 in
set_option maxRecDepth 100000 in
theorem along_any {α : Type} {w0 w1 w : World} {xb : Nat} {g : Gh} {st : St} {n : Nat} {R : List KE} (h : KxI w0 w1 xb g st n R) (hl : R.length ≤ 1000000) (b : Nat) (hb : b < 8) (fn : Nat) (hfn : ∀ (args : Array Value) (W : World), Sem.run Try.prog (callFunc fn args) W = .ok (.enter fn args) W) (caps : Array Value)
    (K : List KE → α → Prop) (J : α → World → Prop) (stp : Nat → KE → α → Bool × α) (a0 : α) (hK0 : K R a0) (hKs : ∀ x t a, K (x :: t) a → K t a) (hKn : ∀ k r a, K (k :: r) a → K r (stp (r.length + 1) k a).2) (hC : Chg (fun q => w1.heap.size ≤ q) w1 w) (hJ0 : J a0 w) (hJ : ∀ a W W', J a W → Chg (fun _ => False) W W' → J a W') (hon : OnOk w1 fn caps K J stp b R) :
    Calls Try.prog 19 #[.pointer (some ⟨xb, 0, none⟩), .int .i64 (b : Nat), .func (.func fn) #[] caps] w (AlongTo w1 J (alongF stp b R a0)) := by
  have hLast := last_any (h.later hC) hl b hb
  obtain ⟨Z, hZ⟩ : ∃ Z, Z = alongF stp b R a0 := ⟨_, rfl⟩
  rw [← hZ]
  obtain ⟨v0, hv0⟩ : ∃ v, v = lastR R b := ⟨_, rfl⟩
  rw [← hv0] at hLast
  have HLAST := Lib.hid hLast
  have HZ := Lib.hid hZ
  have HV0 := Lib.hid hv0
  have HC := Lib.hid hC
  have HJ0 := Lib.hid hJ0
  have HJ := Lib.hid hJ
  have HON := Lib.hid hon
  have HFN := Lib.hid hfn
  have HK0 := Lib.hid hK0
  have HKS : Hid (∀ (p t : List KE) (a : α), K (p ++ t) a → K t a) := Lib.hid (fun p t a hx => by
    induction p with
    | nil => exact hx
    | cons y p ih => exact ih (hKs _ _ _ hx))
  have HKN := Lib.hid hKn
  have HK := Lib.hid h
  have HL := Lib.hid hl
  clear hLast hZ hv0 hC hJ0 hJ hon h hl hfn hK0 hKs hKn
  go_enter Try.func19, Try.ntmps19
  go_wp2_with fail
  refine HLAST.out.mono ?_
  rintro e w2 ⟨rfl, hb2⟩
  have HC2 := Lib.hid (wide_no HC.out (Chg.of_below hb2))
  have HJ2 := Lib.hid (HJ.out _ _ _ HJ0.out (Chg.of_below hb2))
  clear hb2
  go_wp2_with fail
  go_loopw [7] (fun v wr => ∃ (p t : List KE) (a : α) (m : Nat), v = .int .i64 (m : Int) ∧ Hid (m = lastR t b) ∧ Hid (R = p ++ t) ∧ Hid (K t a) ∧ Hid (alongF stp b t a = Z) ∧ Hid (J a wr) ∧ Hid (Chg (fun q => w1.heap.size ≤ q) w1 wr)) (fun v _ => (intOf v).toNat)
  case atStart => exact ⟨[], R, a0, v0, rfl, HV0, Lib.hid rfl, HK0, Lib.hid HZ.out.symm, HJ2, HC2⟩
  case round =>
    obtain ⟨p, t, a, m, rfl, HM, HR, HKt, HA, HJr, HCr⟩ := hrel
    by_cases h0 : m = 0
    · subst h0
      go_wp2_with fail
      go_ret
      have := HA.out
      rw [alongF_none stp b a t HM.out.symm] at this
      exact ⟨rfl, this ▸ HJr.out, HCr.out⟩
    · have hpos : 0 < m := by omega
      obtain ⟨p2, k, r, ht, hkb, hm, hno⟩ := lastR_split t b m HM.out.symm hpos
      have hRR : R = (p ++ p2) ++ k :: r := by rw [HR.out, ht, List.append_assoc]
      have hLink := link_any (HK.out.later HCr.out) HL.out (p ++ p2) k r hRR
      rw [hkb, hm] at hLink
      have hKk : K (k :: r) a := HKS.out p2 (k :: r) a (ht ▸ HKt.out)
      have hKnext := HKN.out k r a hKk
      have hal : alongF stp b (k :: r) a = Z := by rw [← HA.out, ht, alongF_skip stp b a p2 (k :: r) hno]
      have hlr : lastR r b < m := by have := lastR_le r b; omega
      obtain ⟨d, hd⟩ : ∃ d, d = lastR r b := ⟨_, rfl⟩
      have hmI : (m : Int) ≤ 1000000 := by
        have := HL.out
        rw [hRR, List.length_append, List.length_cons] at this
        omega
      obtain ⟨c, a', hs⟩ : ∃ c a', stp m k a = (c, a') := ⟨_, _, rfl⟩
      have hONk := fun W' hW => HON.out (p ++ p2) k r a _ W' hRR hkb hKk HJr.out hW HCr.out
      simp only [hm, hs] at hONk
      rw [hm, hs] at hKnext
      have HKX : Hid (K r a') := Lib.hid hKnext
      clear hKnext hKk
      rw [← hd] at hLink hlr
      simp only [← hd] at hONk
      have hnext : c = true → alongF stp b r a' = Z := fun hc => by
        rw [← hal, alongF, if_pos hkb, hm, hs, if_pos hc]
      have hstop : c = false → a' = Z := fun hc => by
        rw [← hal, alongF, if_pos hkb, hm, hs, hc, if_neg (by simp)]
      obtain ⟨kh, ka, kb⟩ := k
      unfold linkV at hLink hONk
      dsimp only at hLink hONk
      have HLINK := Lib.hid hLink
      have HONK := Lib.hid hONk
      have HNEXT := Lib.hid hnext
      have HSTOP := Lib.hid hstop
      have HD := Lib.hid hd
      have HPR : Hid (R = (p ++ p2 ++ [KE.mk kh ka kb]) ++ r) := Lib.hid (by rw [hRR]; simp)
      clear hLink hONk hnext hstop hd hal hs hRR ht hkb hm hno h0
      go_wp2_with fail
      refine HLINK.out.mono ?_
      rintro e w3 ⟨rfl, hb3⟩
      obtain ⟨W4, hW4⟩ : ∃ W, W = w3.alloc (.cells #[.int .i64 (kh : Int), .int .i64 (ka : Int), .int .i64 (kb : Int), .int .i64 (d : Int)] 54) := ⟨_, rfl⟩
      have hb4 : Below wr.heap.size wr W4 := by rw [hW4]; exact hb3.alloc hb3.size _
      have hw3 := hb3.size
      have k0 : W4.cell? ⟨w3.heap.size, 0, none⟩ = some (.int .i64 (kh : Int)) := by rw [hW4]; simp
      have k1 : W4.cell? ⟨w3.heap.size, 1, none⟩ = some (.int .i64 (ka : Int)) := by rw [hW4]; simp
      have k2 : W4.cell? ⟨w3.heap.size, 2, none⟩ = some (.int .i64 (kb : Int)) := by rw [hW4]; simp
      have k3 : W4.cell? ⟨w3.heap.size, 3, none⟩ = some (.int .i64 (d : Int)) := by rw [hW4]; simp
      have HW4 := Lib.hid hW4
      have HB4 := Lib.hid hb4
      clear hb3 hW4 hb4
      go_upto_region 6 with fail
      rw [← HW4.out]
      go_upto_region 8 with fail
      go_wp2_with fail
      rw [HFN.out, Oper.upon_enter]
      refine (HONK.out W4 (Chg.of_below HB4.out)).mono ?_
      rintro e w5 ⟨rfl, hj5, hc5⟩
      have k3 : w5.cell? ⟨w3.heap.size, 3, none⟩ = some (.int .i64 (d : Int)) := hc5.cell (p := ⟨w3.heap.size, 3, none⟩) k3 (fun hx => absurd hx.2 (by show ¬ (w3.heap.size < wr.heap.size); omega))
      have HJ5 := Lib.hid hj5
      have HC5 := Lib.hid (wide_two (wide_no HCr.out (Chg.of_below HB4.out)) hc5)
      clear hj5 hc5 k0 k1 k2
      cases c with
      | false =>
        have ez := HSTOP.out rfl
        subst ez
        go_wp2_with fail
        go_ret
        exact ⟨rfl, HJ5.out, HC5.out⟩
      | true =>
        have hge : ¬ ((m : Int) ≤ (d : Int)) := by omega
        go_wp2_with fail
        refine ⟨⟨_, r, a', d, rfl, HD, HPR, HKX, Lib.hid (HNEXT.out (by trivial)), HJ5, HC5⟩, ?_⟩
        show ((d : Int)).toNat < ((m : Int)).toNat
        omega
end Go.Proofs.Ytmmnoieafndgjaa

namespace Go.Proofs.Ytmmnoieafndgjaa
open Go.RowKit Go.Deep
set_option linter.unusedVariables false
set_option linter.unusedSimpArgs false

/-- Behind an append and its store. -/
theorem listJ_app {B base s : Nat} {a : List Int} {x : Int} {W W' W9 : World} {v v' : Value} (hj : ListJ B base a W) (hs : s ≤ B) (hc : Chg (fun _ => False) W W') (hv : W.heap[B]? = some (.cells #[v] 32 (0, 0))) (hown : W.ownsRow base 3 1 v a.length (a.map (Value.int .i64)))
    (hown9 : W9.ownsRow base 3 1 v' (a.length + 1) (a.map (Value.int .i64) ++ [.int .i64 x])) (hg : W'.grownBy W9 v.ownBlock) :
    ListJ B base (a ++ [x]) (W9.setCell ⟨B, 0, none⟩ v') ∧ Chg (fun q => s ≤ q ∧ q < W.heap.size) W' (W9.setCell ⟨B, 0, none⟩ v') := by
  obtain ⟨_, _, _, hBb, hbs⟩ := hj
  have hob : ∀ q, v.ownBlock = some q → base ≤ q ∧ q < W.heap.size := fun q hq => hown.lt q hq
  have hB : B < W.heap.size := (Array.getElem?_eq_some_iff.1 hv).1
  have hv' := hc.heap hv (fun x => x)
  have hcg : Chg (fun q => s ≤ q ∧ q < W.heap.size) W' W9 := Chg.of_grown hg (fun q hx _ => by have := hob q hx; omega)
  have hB9 : W9.heap[B]? = some (.cells #[v] 32 (0, 0)) := by
    have h1 : Chg (fun q => v.ownBlock = some q) W' W9 := Chg.of_grown hg (fun q hx _ => hx)
    exact h1.heap hv' (fun hx => by have := hob _ hx; omega)
  have hset : Chg (fun q => q = B) W9 (W9.setCell ⟨B, 0, none⟩ v') := Chg.setCell (S := fun q => q = B) (p := ⟨B, 0, none⟩) (Chg.refl _ _) (fun _ => rfl) _
  refine ⟨⟨v', heap_setCell_same W9 B 0 _ _ v' hB9, ?_, hBb, ?_⟩, hcg.trans hset (fun i hi hx => by subst hx; exact ⟨hs, hB⟩)⟩
  · have h2 : W9.ownsRow base 3 1 v' (a ++ [x]).length ((a ++ [x]).map (Value.int .i64)) := by
      rw [List.length_append, List.map_append]
      exact hown9
    exact hset.row h2 (fun q hq hx => by have := (h2.lt q hq).1; omega)
  · have := hc.size
    have := hg.size
    rw [World.size_setCell]
    omega
theorem own_slice {w : World} {base : Nat} {t : TypeId} {v : Value} {n : Nat} {xs : List Value} (h : w.ownsRow base t 1 v (n + 1) xs) : ∃ q c, v = .slice (some ⟨q, 0, none⟩) (n + 1) c := by
  rcases h.2 with ⟨_, h0⟩ | ⟨g, cap, cur, e1, _⟩
  · omega
  · exact ⟨_, _, e1⟩
/-- What Find's closure reads: its most, its least, its number. -/
def FindJ (B base Mo L H h : Nat) (least most : Int) (a : List Int) (W : World) : Prop :=
  ListJ B base a W ∧ W.heap[Mo]? = some (.cells #[.int .i64 most] 3 (0, 0)) ∧ W.heap[L]? = some (.cells #[.int .i64 least] 3 (0, 0)) ∧ W.heap[H]? = some (.cells #[.int .i64 (h : Int)] 3 (0, 0)) ∧ Mo < base ∧ L < base ∧ H < base ∧ Mo ≠ B ∧ L ≠ B ∧ H ≠ B
theorem FindJ.new {B base Mo L H h : Nat} {least most : Int} {a : List Int} {W W' : World} (hf : FindJ B base Mo L H h least most a W) (hc : Chg (fun _ => False) W W') : FindJ B base Mo L H h least most a W' := by
  obtain ⟨h0, h1, h2, h3, h4⟩ := hf
  exact ⟨h0.new hc, hc.heap h1 (fun x => x), hc.heap h2 (fun x => x), hc.heap h3 (fun x => x), h4⟩
theorem findJ_app {B base Mo L H h s : Nat} {least most x : Int} {a : List Int} {W W' W9 : World} {v v' : Value} (hj : FindJ B base Mo L H h least most a W) (hs : s ≤ B) (hc : Chg (fun _ => False) W W') (hv : W.heap[B]? = some (.cells #[v] 32 (0, 0))) (hown : W.ownsRow base 3 1 v a.length (a.map (Value.int .i64)))
    (hown9 : W9.ownsRow base 3 1 v' (a.length + 1) (a.map (Value.int .i64) ++ [.int .i64 x])) (hg : W'.grownBy W9 v.ownBlock) :
    FindJ B base Mo L H h least most (a ++ [x]) (W9.setCell ⟨B, 0, none⟩ v') ∧ Chg (fun q => s ≤ q ∧ q < W.heap.size) W' (W9.setCell ⟨B, 0, none⟩ v') := by
  obtain ⟨h0, h1, h2, h3, m1, m2, m3, n1, n2, n3⟩ := hj
  obtain ⟨r1, r2⟩ := listJ_app h0 hs hc hv hown hown9 hg
  have hst : Chg (fun q => q = B ∨ base ≤ q) W' (W9.setCell ⟨B, 0, none⟩ v') := by
    have hcg : Chg (fun q => q = B ∨ base ≤ q) W' W9 := Chg.of_grown hg (fun q hx _ => .inr (hown.lt q hx).1)
    have hset : Chg (fun q => q = B) W9 (W9.setCell ⟨B, 0, none⟩ v') := Chg.setCell (S := fun q => q = B) (p := ⟨B, 0, none⟩) (Chg.refl _ _) (fun _ => rfl) _
    exact hcg.trans hset (fun _ _ x => .inl x)
  exact ⟨⟨r1, hst.heap (hc.heap h1 (fun x => x)) (by omega), hst.heap (hc.heap h2 (fun x => x)) (by omega), hst.heap (hc.heap h3 (fun x => x)) (by omega), m1, m2, m3, n1, n2, n3⟩, r2⟩
set_option maxHeartbeats 2000000 in
set_option maxRecDepth 100000 in
theorem find1_any (s B base Mo L H h : Nat) (least most : Int) (a : List Int) (W W' : World) (m : Nat) (k : KE) (d : Nat) (hj : FindJ B base Mo L H h least most a W) (hs : s ≤ B) (hc : Chg (fun _ => False) W W') (ha : a.length ≤ 1000000) :
    Calls Try.prog 20 #[.int .i64 (m : Nat), linkV k d, .pointer (some ⟨B, 0, none⟩), .pointer (some ⟨Mo, 0, none⟩), .pointer (some ⟨L, 0, none⟩), .pointer (some ⟨H, 0, none⟩)] W' fun e W'' =>
      e = .returned (.bool (findStp h least most m k a).1) ∧ FindJ B base Mo L H h least most (findStp h least most m k a).2 W'' ∧ Chg (fun q => s ≤ q ∧ q < W.heap.size) W' W'' := by
  have hj0 := hj
  obtain ⟨⟨v, hv, hown, hBb, hbs⟩, h1, h2, h3, m1, m2, m3, n1, n2, n3⟩ := hj
  obtain ⟨i0, hi, hz0, hz1, hz2⟩ := info_parts info_num
  obtain ⟨kh, ka, kb⟩ := k
  unfold linkV findStp
  dsimp only
  obtain ⟨W0, hW0⟩ : ∃ X, X = W'.alloc (.cells #[.int .i64 (kh : Int), .int .i64 (ka : Int), .int .i64 (kb : Int), .int .i64 (d : Int)] 54) := ⟨_, rfl⟩
  have hc0 : Chg (fun _ => False) W' W0 := hW0 ▸ Chg.alloc _ (Chg.refl _ _) _
  have hcw : Chg (fun _ => False) W W0 := hc.trans hc0 (fun _ _ x => x)
  have hv0 := hcw.heap hv (fun x => x)
  have hm0 := hcw.heap h1 (fun x => x)
  have hl0 := hcw.heap h2 (fun x => x)
  have hh0 := hcw.heap h3 (fun x => x)
  have kB : W0.cell? ⟨B, 0, none⟩ = some v := by simp [World.cell?, hv0]
  have zB : W0.frozen? ⟨B, 0, none⟩ = false := by simp [World.frozen?, hv0]
  have kM : W0.cell? ⟨Mo, 0, none⟩ = some (.int .i64 most) := by simp [World.cell?, hm0]
  have kL : W0.cell? ⟨L, 0, none⟩ = some (.int .i64 least) := by simp [World.cell?, hl0]
  have kH : W0.cell? ⟨H, 0, none⟩ = some (.int .i64 (h : Int)) := by simp [World.cell?, hh0]
  have j0 : W0.cell? ⟨W'.heap.size, 0, none⟩ = some (.int .i64 (kh : Int)) := by rw [hW0]; simp
  have j1 : W0.cell? ⟨W'.heap.size, 1, none⟩ = some (.int .i64 (ka : Int)) := by rw [hW0]; simp
  have hown0 := hcw.row hown (fun _ _ x => x)
  have hb0 : base ≤ W0.heap.size := Nat.le_trans hbs hcw.size
  have HEND : Hid (∀ (W9 : World) (v' : Value), W9.ownsRow base 3 1 v' (a.length + 1) (a.map (Value.int .i64) ++ [.int .i64 (ka : Int)]) → (W0.alloc (.cells #[.int .i64 (ka : Int)] 3)).grownBy W9 v.ownBlock → FindJ B base Mo L H h least most (a ++ [(ka : Int)]) (W9.setCell ⟨B, 0, none⟩ v') ∧ Chg (fun q => s ≤ q ∧ q < W.heap.size) W' (W9.setCell ⟨B, 0, none⟩ v') ∧ W9.cell? ⟨B, 0, none⟩ = some v ∧ W9.frozen? ⟨B, 0, none⟩ = false) := Lib.hid (fun W9 v' h9 hg => by
    have hc1 : Chg (fun _ => False) W (W0.alloc (.cells #[.int .i64 (ka : Int)] 3)) := Chg.alloc _ hcw _
    have hc2 : Chg (fun _ => False) W' (W0.alloc (.cells #[.int .i64 (ka : Int)] 3)) := Chg.alloc _ hc0 _
    obtain ⟨r1, r2⟩ := findJ_app hj0 hs hc1 hv hown h9 hg
    have hB9 : W9.heap[B]? = some (.cells #[v] 32 (0, 0)) := by
      have h3 : Chg (fun q => v.ownBlock = some q) (W0.alloc (.cells #[.int .i64 (ka : Int)] 3)) W9 := Chg.of_grown hg (fun q hx _ => hx)
      exact h3.heap (hc1.heap hv (fun x => x)) (fun hx => by have := (hown.lt _ hx).1; omega)
    exact ⟨r1, (hc2.wide (fun _ _ x => x.elim)).trans r2 (fun i hi x => x), by simp [World.cell?, hB9], by simp [World.frozen?, hB9]⟩)
  obtain ⟨vc, va, hvf⟩ : ∃ va vc, v = .slice va a.length vc := by
    rcases hown.2 with ⟨e1, h0⟩ | ⟨g, cap, cur, e1, _⟩
    · exact ⟨none, 0, by rw [e1, h0]⟩
    · exact ⟨_, _, e1⟩
  have HOWN := Lib.hid hown0
  have HW0 := Lib.hid hW0
  have HOLD : Hid (∀ W'', Below W0.heap.size W0 W'' → FindJ B base Mo L H h least most a W'' ∧ Chg (fun q => s ≤ q ∧ q < W.heap.size) W' W'') := Lib.hid (fun W'' hb => by
    have hcb : Chg (fun _ => False) W0 W'' := Chg.of_below hb
    exact ⟨hj0.new (hcw.trans hcb (fun _ _ x => x)), (hc0.trans hcb (fun _ _ x => x)).wide (fun _ _ x => x.elim)⟩)
  clear hj0 hv hown hBb hbs hW0 hc0 hcw hv0 hown0 hc h1 h2 h3 hm0 hl0 hh0 m1 m2 m3 n1 n2 n3
  subst hvf
  by_cases c1 : most ≤ (a.length : Int)
  · rw [if_pos (.inl c1)]
    have g1 : decide (most ≤ (a.length : Int)) = true := decide_eq_true c1
    clear j0 j1 kH
    go_enter Try.func20, Try.ntmps20
    go_upto_region 1 with fail
    rw [← HW0.out]
    go_wp2_with fail
    go_ret
    exact ⟨rfl, HOLD.out _ (Below.refl _ _)⟩
  · have g1 : ¬ most ≤ (a.length : Int) := c1
    by_cases c2 : (ka : Int) < least
    · rw [if_pos (.inr c2)]
      go_enter Try.func20, Try.ntmps20
      go_upto_region 1 with fail
      rw [← HW0.out]
      go_wp2_with fail
      go_ret
      exact ⟨rfl, HOLD.out _ (Below.refl _ _)⟩
    · rw [if_neg (by omega)]
      by_cases c3 : kh = h
      · rw [if_pos c3]
        subst c3
        go_enter Try.func20, Try.ntmps20
        go_upto_region 1 with fail
        rw [← HW0.out]
        go_wp2_with (at_builtin; refine wpList_append_own _ rfl (.tmp 23) (.tmp 26) 32 rfl base 3 i0 _ 1 8 Try.underlying32 hi hz0 hz1 hz2 rfl (by decide) _ a.length (a.map (Value.int .i64)) rfl (World.ownsRow.alloc HOWN.out _) ⟨W0.heap.size, 0, none⟩ 1 1 [.int .i64 (ka : Int)] rfl rfl ?d1 ?d2 ?d3 ?d4 ?d5 ?d6)
        case d2 => rfl
        case d3 => unfold maxLen; omega
        case d4 => omega
        case d5 => omega
        case d6 =>
          intro v' w9 hown9 hgrow9 _
          obtain ⟨q9, c9, rfl⟩ := own_slice hown9
          obtain ⟨h1, h2, k9, z9⟩ := HEND.out w9 _ hown9 hgrow9
          have H1 := Lib.hid h1
          have H2 := Lib.hid h2
          clear h1 h2 hown9 hgrow9
          go_wp2_with fail
          go_ret
          exact ⟨rfl, H1.out, H2.out⟩
      · rw [if_neg c3]
        have c4 : ¬ ((kh : Int) = (h : Int)) := by omega
        go_enter Try.func20, Try.ntmps20
        go_upto_region 1 with fail
        rw [← HW0.out]
        go_wp2_with fail
        go_ret
        exact ⟨rfl, HOLD.out _ (Below.refl _ _)⟩
end Go.Proofs.Ytmmnoieafndgjaa

namespace Go.Proofs.Ytmmnoieafndgjaa
open Go.RowKit Go.Deep
set_option linter.unusedVariables false
set_option linter.unusedSimpArgs false

theorem own_base {w : World} {b b' : Nat} {t : TypeId} {s : Nat} {v : Value} {n : Nat} {xs : List Value} (h : w.ownsRow b t s v n xs) (hb : b' ≤ b) : w.ownsRow b' t s v n xs := by
  refine ⟨h.1, ?_⟩
  rcases h.2 with h0 | ⟨g1, cap, cur, e1, hbase, rest⟩
  · exact .inl h0
  · exact .inr ⟨g1, cap, cur, e1, Nat.le_trans hb hbase, rest⟩
def NumsTo (w : World) (l : List Int) (v : Value) (w' : World) : Prop := w'.ownsRow w.heap.size 3 1 v l.length (l.map (Value.int .i64)) ∧ Chg (fun _ => False) w w'
theorem find1_fn (args : Array Value) (W : World) : Sem.run Try.prog (callFunc 20 args) W = .ok (.enter 20 args) W := by kernel_rfl
set_option maxHeartbeats 2000000 in
set_option maxRecDepth 100000 in
theorem kfind_any {w0 w : World} {xb : Nat} {g : Gh} {st : St} {n : Nat} {R : List KE} (h : KxI w0 w xb g st n R) (hl : R.length ≤ 100000) (t k : ByteArray) (ht : t.size ≤ maxLen) (hk : k.size ≤ maxLen) (least most : Int) :
    Calls Try.prog 8 #[.pointer (some ⟨xb, 0, none⟩), .string t, .string k, .int .i64 least, .int .i64 most] w fun e w' => ∃ v, e = .returned (.tuple #[v, .int .i64 0]) ∧ NumsTo w (findL (numK t k) least most R) v w' := by
  obtain ⟨W1, hW1⟩ : ∃ W, W = (w.alloc (.cells #[.int .i64 least] 3)).alloc (.cells #[.int .i64 most] 3) := ⟨_, rfl⟩
  obtain ⟨W2, hW2⟩ : ∃ W, W = W1.alloc (.cells #[.slice none 0 0] 32) := ⟨_, rfl⟩
  have hb1 : Below w.heap.size w W1 := hW1 ▸ ((Below.refl _ _).alloc (Nat.le_refl _) _).alloc (by rw [World.size_alloc]; omega) _
  have hs1 : W1.heap.size = w.heap.size + 2 := by rw [hW1, World.size_alloc, World.size_alloc]
  have hb2 : Below w.heap.size w W2 := hW2 ▸ hb1.alloc hb1.size _
  have hs2 : W2.heap.size = w.heap.size + 3 := by rw [hW2, World.size_alloc, hs1]
  have hL2 : W2.heap[w.heap.size]? = some (.cells #[.int .i64 least] 3 (0, 0)) := by
    have h3 : Below (w.heap.size + 1) (w.alloc (.cells #[.int .i64 least] 3)) W2 := by
      rw [hW2, hW1]
      exact ((Below.refl _ _).alloc (by rw [World.size_alloc]; exact Nat.le_refl _) _).alloc (by rw [World.size_alloc, World.size_alloc]; omega) _
    rw [h3.block _ (by omega)]
    exact heap_alloc_new w _
  have hM2 : W2.heap[w.heap.size + 1]? = some (.cells #[.int .i64 most] 3 (0, 0)) := by
    have := heap_alloc_new (w.alloc (.cells #[.int .i64 least] 3)) (.cells #[.int .i64 most] 3)
    rw [World.size_alloc, ← hW1] at this
    have h3 : Below W1.heap.size W1 W2 := hW2 ▸ (Below.refl _ _).alloc (Nat.le_refl _) _
    rw [h3.block _ (by omega)]
    exact this
  have hB2 : W2.heap[w.heap.size + 2]? = some (.cells #[.slice none 0 0] 32 (0, 0)) := by rw [hW2, ← hs1]; exact heap_alloc_new W1 _
  obtain ⟨h0, hh0⟩ : ∃ h0, h0 = numK t k := ⟨_, rfl⟩
  rw [← hh0]
  have hN := fun W => number_any t k W ht hk
  rw [← hh0] at hN
  have hA : ∀ (w4 : World), Below W2.heap.size W2 w4 → Calls Try.prog 19 #[.pointer (some ⟨xb, 0, none⟩), .int .i64 ((h0 % 8 : Nat) : Int), .func (.func 20) #[] #[.pointer (some ⟨w.heap.size + 2, 0, none⟩), .pointer (some ⟨w.heap.size + 1, 0, none⟩), .pointer (some ⟨w.heap.size, 0, none⟩), .pointer (some ⟨w4.heap.size, 0, none⟩)]] (w4.alloc (.cells #[.int .i64 (h0 : Int)] 3)) (AlongTo w (FindJ (w.heap.size + 2) (w4.heap.size + 1) (w.heap.size + 1) w.heap.size w4.heap.size h0 least most) (findL h0 least most R)) := fun w4 hb4 => by
    have hs4 := hb4.size
    obtain ⟨W5, hW5⟩ : ∃ W, W = w4.alloc (.cells #[.int .i64 (h0 : Int)] 3) := ⟨_, rfl⟩
    have hb5 : Below W2.heap.size W2 W5 := hW5 ▸ hb4.alloc hb4.size _
    have hs5 : W5.heap.size = w4.heap.size + 1 := by rw [hW5, World.size_alloc]
    have hbw : Below w.heap.size w W5 := hb2.trans (hb5.mono hb2.size)
    have hj : FindJ (w.heap.size + 2) (w4.heap.size + 1) (w.heap.size + 1) w.heap.size w4.heap.size h0 least most [] W5 := by
      refine ⟨⟨_, by rw [hb5.block _ (by omega)]; exact hB2, World.ownsRow_nil _ _ _ _, by omega, by omega⟩, by rw [hb5.block _ (by omega)]; exact hM2, by rw [hb5.block _ (by omega)]; exact hL2, by rw [hW5]; exact heap_alloc_new w4 _, by omega, by omega, by omega, by omega, by omega, by omega⟩
    rw [← hW5]
    exact along_any h (by omega) (h0 % 8) (Nat.mod_lt _ (by decide)) 20 find1_fn _ (fun t a => a.length + t.length ≤ R.length) _ (findStp h0 least most) []
      (by simp) (fun x t a hx => by simp only [List.length_cons] at hx; omega) (fun k r a hx => by
        simp only [List.length_cons] at hx
        unfold findStp
        split
        · show a.length + r.length ≤ _; omega
        · split
          · show (a ++ [_]).length + r.length ≤ _; rw [List.length_append]; simp only [List.length_cons, List.length_nil]; omega
          · show a.length + r.length ≤ _; omega)
      (Chg.of_below hbw) hj (fun a W W' hj hc => hj.new hc) (fun p k r a W W' hR hkb hK hj hc hC => by
        exact find1_any w.heap.size _ _ _ _ _ h0 least most a W W' (r.length + 1) k (lastR r (h0 % 8)) hj (by omega) hc (by simp only [List.length_cons] at hK; omega))
  have hmod : ((h0 : Int).tmod 8) = ((h0 % 8 : Nat) : Int) := by rw [Int.tmod_eq_emod_of_nonneg (by omega)]; omega
  have hlt0 : (h0 : Int) < 4294967296 := by have := numK_lt t k; omega
  obtain ⟨bi, hbi⟩ : ∃ bi : Int, bi = ((h0 % 8 : Nat) : Int) := ⟨_, rfl⟩
  rw [← hbi] at hA hmod
  have HA := Lib.hid hA
  have HN := Lib.hid hN
  have HW1 := Lib.hid hW1
  have HW2 := Lib.hid hW2
  have HB2 := Lib.hid hb2
  have HS := Lib.hid hs2
  have HS1 := Lib.hid hs1
  clear h hA hN hW1 hW2 hb1 hb2 hL2 hM2 hB2 hh0 hbi
  go_enter Try.func8, Try.ntmps8
  go_upto_region 1 with fail
  rw [← HW1.out]
  go_upto_region 4 with fail
  rw [← HW2.out]
  go_wp2_with fail
  refine (HN.out _).mono ?_
  rintro e w4 ⟨rfl, hb4⟩
  have HA4 := Lib.hid (HA.out w4 hb4)
  have HB4 := Lib.hid hb4
  have HB5 := Lib.hid (HB2.out.trans (hb4.mono HB2.out.size))
  have hn4 : (w4.alloc (.cells #[.int .i64 (h0 : Int)] 3)).cell? ⟨w4.heap.size, 0, none⟩ = some (.int .i64 (h0 : Int)) := by simp
  clear hb4
  go_wp2_with fail
  refine HA4.out.mono ?_
  rintro e w6 ⟨rfl, ⟨⟨v, hv, hown, hBb, hbs⟩, _⟩, hc⟩
  have kB : w6.cell? ⟨w.heap.size + 2, 0, none⟩ = some v := by simp [World.cell?, hv]
  have hw2 := HS.out
  have hw4 := HB4.out.size
  have HR : Hid (NumsTo w (findL h0 least most R) v w6) := Lib.hid ⟨own_base hown (by omega), hc.wide (fun i hi hx => by omega)⟩
  obtain ⟨va, vc, hvf⟩ : ∃ va vc, v = .slice va (findL h0 least most R).length vc := by
    rcases hown.2 with ⟨e1, h0⟩ | ⟨g, cap, cur, e1, _⟩
    · exact ⟨none, 0, by rw [e1, h0]⟩
    · exact ⟨_, _, e1⟩
  clear hv hown hBb hbs hc
  obtain ⟨nn, hnn⟩ : ∃ nn, nn = (findL h0 least most R).length := ⟨_, rfl⟩
  rw [← hnn] at hvf
  subst hvf
  clear hnn
  go_wp2_with fail
  go_ret2
  exact ⟨_, rfl, HR.out⟩
end Go.Proofs.Ytmmnoieafndgjaa

namespace Go.Proofs.Ytmmnoieafndgjaa
open Go.RowKit Go.Deep
set_option linter.unusedVariables false
set_option linter.unusedSimpArgs false

def zeros24 : ByteArray := ⟨(List.replicate 24 (0 : UInt8)).toArray⟩
/-- The disk's states while an index is made. -/
def kSt (c : Int) : Nat → St
  | 0 => newSt c
  | 1 => createS (newSt c) xL
  | _ => createS (createS (newSt c) xL) xS
def kNm : Nat → ByteArray
  | 0 => xL
  | _ => xS
def kEnd (c : Int) : St := writeS (kSt c 2) xS ((0 : Nat) : Int) zeros24
theorem kSt_facts (c : Int) (h0 : 24 ≤ c) (h1 : c ≤ 16777216) :
    (∀ j, j < 2 → createE (kSt c j) (kNm j) = 0 ∧ createS (kSt c j) (kNm j) = kSt c (j + 1) ∧ Calm 2 (kSt c j)) ∧ Calm 2 (kSt c 2) ∧
    writeE (kSt c 2) xS ((0 : Nat) : Int) zeros24 = 0 ∧ Calm 3 (kEnd c) ∧ (∃ f, (kEnd c).find xL = some f ∧ f.bytes = linksB []) ∧ (∃ f, (kEnd c).find xS = some f ∧ f.bytes = slotsB []) ∧ (kEnd c).size = 24 ∧ (kEnd c).cap = c.toNat ∧ (∃ f, (kSt c 2).find xS = some f ∧ f.bytes = [] ∧ f.writes = []) := by
  have k0 : Calm 0 (newSt c) := ⟨Good.new c, rfl, rfl⟩
  have f0 : (newSt c).find xL = none := rfl
  have e1 := k0.createS f0
  have k1 := k0.create f0
  have f1 : (createS (newSt c) xL).find xS = none := by rw [e1]; rfl
  have e2 := k1.createS f1
  have k2 := k1.create f1
  have s2 : kSt c 2 = createS (createS (newSt c) xL) xS := rfl
  have g2 : (kSt c 2).find xS = some emptyF := by rw [s2, e2, e1]; rfl
  have g1 : (kSt c 2).find xL = some emptyF := by rw [s2, e2, e1]; rfl
  have hc2 : (kSt c 2).cap = c.toNat := by rw [s2, e2, e1]; show (min (max c 0) 16777216).toNat = _; omega
  have hz2 : (kSt c 2).size = 0 := by rw [s2, e2, e1]; rfl
  have hzz : zeros24.size = 24 := by decide
  have hmo : more emptyF 0 zeros24.size = 24 := by decide
  obtain ⟨w1, w2, w3⟩ := calm_writeA (a := 0) (s := zeros24) (show Calm 2 (kSt c 2) from k2) g2 (Nat.zero_le _) (by rw [hmo]; omega) (by rw [hzz]; decide)
  rw [hmo] at w2
  refine ⟨fun j hj => ?_, k2, w1, w3, ⟨emptyF, ?_, rfl⟩, ⟨_, by unfold kEnd; rw [w2]; exact findS_same g2, (by show putB [] 0 zeros24.data.toList = slotsB []; decide +kernel)⟩, by unfold kEnd; rw [w2, hz2], by unfold kEnd; rw [w2]; exact hc2, ⟨_, g2, rfl, rfl⟩⟩
  · match j, hj with
    | 0, _ => exact ⟨k0.createE f0, rfl, ⟨k0.good.more (by decide), k0.lit, k0.down⟩⟩
    | 1, _ => exact ⟨k1.createE f1, rfl, ⟨k1.good.more (by decide), k1.lit, k1.down⟩⟩
  · unfold kEnd
    rw [w2, findS_other xLS]
    exact g1
theorem krefuses_any (c : Int) (h0 : 24 ≤ c) (h1 : c ≤ 16777216) (xb : Nat) (g : Gh) (w : World) (hd : DiskAt w g (newSt c)) (hx : w.cell? ⟨xb, 0, none⟩ = some (.pointer (some ⟨g.d, 0, none⟩))) (a : Option Addr) (cap : Nat) :
    Calls Try.prog 21 #[.pointer (some ⟨xb, 0, none⟩), .slice a 0 cap] w fun e w' => e = .returned (.int .i64 0) ∧ ∃ k, w' = w.drewN k := by
  have hD : Calls Try.prog 40 #[.pointer (some ⟨g.d, 0, none⟩)] w fun e w' => e = .returned (.bool false) ∧ w = w' := down_any g (newSt c) w hd
  have hcap : (newSt c).cap = c.toNat := by show (min (max c 0) 16777216).toNat = _; omega
  have hR := room_any g (newSt c) w hd (by show 0 ≤ _; omega) (by rw [hcap]; omega)
  have e : ((newSt c).cap : Int) - (newSt c).size = c := by rw [hcap]; show ((c.toNat : Nat) : Int) - ((0 : Nat) : Int) = c; omega
  rw [e] at hR
  have HD := Lib.hid hD
  have HR := Lib.hid hR
  clear hd hD hR hcap e
  have g1 : ¬ c < 24 := by omega
  go_enter Try.func21, Try.ntmps21
  go_wp2_with fail
  refine HD.out.mono ?_
  rintro e w1 ⟨rfl, rfl⟩
  go_wp2_with fail
  refine HR.out.mono ?_
  rintro e w1 ⟨rfl, y, rfl⟩
  go_wp2_with fail
  go_loopw [5, 20] (fun r i wr => r = .int .i64 c ∧ i = .int .i64 0 ∧ wr = w.drewN y) (fun _ _ _ => 0)
  case atStart => exact ⟨rfl, rfl, rfl⟩
  case round =>
    obtain ⟨rfl, rfl, rfl⟩ := hrel
    go_wp2_with fail
    go_ret
    exact ⟨rfl, y, rfl⟩
def KBegTo (c : Int) (g : Gh) (w : World) (e : Ending) (w' : World) : Prop := e = .returned (.int .i64 0) ∧ ∃ g', DiskAt w' g' (kEnd c) ∧ Gh.To w g g' w'
set_option maxHeartbeats 2000000 in
set_option maxRecDepth 100000 in
theorem kbegin_any (c : Int) (h0 : 24 ≤ c) (h1 : c ≤ 16777216) (xb : Nat) (g : Gh) (w : World) (hd : DiskAt w g (newSt c)) (hx : w.heap[xb]? = some (.cells #[.pointer (some ⟨g.d, 0, none⟩), .int .i64 0] 38 (0, 0))) (hout : xb ∉ g.fp) (a : Option Addr) (cap : Nat) :
    Calls Try.prog 10 #[.pointer (some ⟨xb, 0, none⟩), .slice a 0 cap] w (KBegTo c g w) := by
  obtain ⟨hcr, hk2, hwe, hke, _, _, _, _, hf2⟩ := kSt_facts c h0 h1
  have hx0 : w.cell? ⟨xb, 0, none⟩ = some (.pointer (some ⟨g.d, 0, none⟩)) := by simp [World.cell?, hx]
  have HRF := Lib.hid (krefuses_any c h0 h1 xb g w hd hx0 a cap)
  have HCR : Hid (∀ j, j < 2 → ∀ (W : World) (g' : Gh), DiskAt W g' (kSt c j) → g'.d = g.d → Calls Try.prog 23 #[.pointer (some ⟨g.d, 0, none⟩), .string (kNm j)] W (OpTo g' 0 (kSt c (j + 1)) W)) := Lib.hid (fun j hj W g' hW hg => by
    obtain ⟨e1, e2, k⟩ := hcr j hj
    have := create_any g' (kSt c j) (kNm j) W hW (by match j, hj with | 0, _ => decide | 1, _ => decide) k.good.fuse (by have := k.good.len; omega)
    rw [e1, e2, hg] at this
    exact this)
  have HWR : Hid (∀ (W : World) (g' : Gh), DiskAt W g' (kSt c 2) → g'.d = g.d → Calls Try.prog 24 #[.pointer (some ⟨g.d, 0, none⟩), .string xS, .int .i64 0, .string zeros24] W (OpTo g' 0 (kEnd c) W)) := Lib.hid (fun W g' hW hg => by
    obtain ⟨f, e1, e2, e3⟩ := hf2
    have := write_any g' (kSt c 2) xS ((0 : Nat) : Int) zeros24 W hW (by decide) hk2.good.fuse (by decide) hk2.good.cap hk2.good.size (by have := hk2.good.turn; omega) (fun f' hf' => by
      rw [e1] at hf'; cases hf'
      rw [e2, e3]
      exact ⟨by decide, by decide⟩)
    rw [hwe, hg] at this
    exact this)
  have HRP : Hid (∀ W, Calls Try.prog 25 #[.string ⟨#[0]⟩, .int .i64 24] W fun e w' => e = .returned (.string zeros24) ∧ Below W.heap.size W w') := Lib.hid (fun W => by
    have := Try.strings_Repeat ⟨#[0]⟩ 24 W (by decide) (by decide)
    have e : (⟨(Lib.repeatL (⟨#[0]⟩ : ByteArray).data.toList 24).toArray⟩ : ByteArray) = zeros24 := by decide
    rw [e] at this
    exact this)
  have HKEEP : Hid (∀ (W : World) (g' : Gh), Gh.To w g g' W → W.cell? ⟨xb, 0, none⟩ = some (.pointer (some ⟨g.d, 0, none⟩))) := Lib.hid (fun W g' t => by
    have := t.chg.heap hx hout
    simp [World.cell?, this])
  have HD := Lib.hid hd
  have i0 : ∀ w, (Instr.index 58 (.agg #[.string ⟨#[120, 45, 108, 105, 110, 107, 115]⟩, .string ⟨#[120, 45, 115, 108, 111, 116, 115]⟩]) (.int .i64 0)).run Try.prog w = .ok (.string xL) w := fun _ => by kernel_rfl
  have i1 : ∀ w, (Instr.index 58 (.agg #[.string ⟨#[120, 45, 108, 105, 110, 107, 115]⟩, .string ⟨#[120, 45, 115, 108, 111, 116, 115]⟩]) (.int .i64 1)).run Try.prog w = .ok (.string xS) w := fun _ => by kernel_rfl
  clear hcr hk2 hwe hke hf2 hd hx hout h0 h1
  go_enter Try.func10, Try.ntmps10
  go_wp2_with fail
  refine HRF.out.mono ?_
  rintro e w1 ⟨rfl, y, rfl⟩
  go_wp2_with fail
  go_loopw [29] (fun i wr => ∃ j : Nat, j ≤ 2 ∧ i = .int .i64 (j : Int) ∧ ∃ g', Hid (DiskAt wr g' (kSt c j)) ∧ Hid (Gh.To w g g' wr)) (fun i _ => 2 - (intOf i).toNat)
  case atStart => exact ⟨0, by decide, rfl, g, Lib.hid (HD.out.new ((Chg.refl _ _).drewN y)), Lib.hid (Gh.To.new g ((Chg.refl _ _).drewN y))⟩
  case round =>
    obtain ⟨j, hj, rfl, g', HDr, HTr⟩ := hrel
    have k0 := HKEEP.out wr g' HTr.out
    rcases (show j = 0 ∨ j = 1 ∨ j = 2 by omega) with rfl | rfl | rfl
    · have HC := Lib.hid (HCR.out 0 (by decide) wr g' HDr.out HTr.out.d)
      go_wp2_with fail
      refine HC.out.mono ?_
      rintro e w3 ⟨rfl, g3, hd3, ht3⟩
      have HR : Hid (DiskAt w3 g3 (kSt c 1) ∧ Gh.To w g g3 w3) := Lib.hid ⟨hd3, HTr.out.trans ht3⟩
      clear hd3 ht3
      go_wp2_with fail
      exact ⟨⟨1, by decide, rfl, g3, Lib.hid HR.out.1, Lib.hid HR.out.2⟩, by decide⟩
    · have HC := Lib.hid (HCR.out 1 (by decide) wr g' HDr.out HTr.out.d)
      go_wp2_with fail
      refine HC.out.mono ?_
      rintro e w3 ⟨rfl, g3, hd3, ht3⟩
      have HR : Hid (DiskAt w3 g3 (kSt c 2) ∧ Gh.To w g g3 w3) := Lib.hid ⟨hd3, HTr.out.trans ht3⟩
      clear hd3 ht3
      go_wp2_with fail
      exact ⟨⟨2, by decide, rfl, g3, Lib.hid HR.out.1, Lib.hid HR.out.2⟩, by decide⟩
    · go_upto_region 15 with fail
      have HWR' : Hid (∀ W, Below wr.heap.size wr W → Calls Try.prog 24 #[.pointer (some ⟨g.d, 0, none⟩), .string xS, .int .i64 0, .string zeros24] W (KBegTo c g w)) := Lib.hid (fun W hW => by
        refine (HWR.out W g' (HDr.out.new (Chg.of_below hW)) HTr.out.d).mono ?_
        rintro e w5 ⟨rfl, g5, hd5, ht5⟩
        exact ⟨rfl, g5, hd5, (HTr.out.trans (Gh.To.new g' (Chg.of_below hW))).trans ht5⟩)
      go_region_held3 (fun w' => w'.cell? ⟨xb, 0, none⟩ = some (.pointer (some ⟨g.d, 0, none⟩)))
        (first | exact k0 | go_keep)
        (first
          | (go_at_call 25
             refine (HRP.out _).mono ?_
             rintro e w2 ⟨rfl, hb2⟩
             have k0 := keep4 hb2 k0
             have HB2 := Lib.hid hb2
             clear hb2)
          | (go_at_call 24
             refine (HWR'.out _ ?_).mono ?_
             · repeat (first | exact Below.refl _ _ | with_reducible refine below_drewN ?_ _ | with_reducible refine Below.drew ?_ | refine below_on HB2.out ?_ (Nat.le_refl _))
             rintro e w5 ⟨rfl, g5, hd5, ht5⟩
             have k0 := HKEEP.out w5 g5 ht5
             have HR : Hid (DiskAt w5 g5 (kEnd c) ∧ Gh.To w g g5 w5) := Lib.hid ⟨hd5, ht5⟩
             clear hd5 ht5))
      all_goals
        go_wp2_with fail
        go_ret
        refine ⟨rfl, g5, ?_, ?_⟩
        · repeat (first | exact HR.out.1 | with_reducible refine DiskAt.drew ?_)
        · first | exact HR.out.2 | exact HR.out.2.trans (Gh.To.new g5 (Chg.refl _ _).drew) | exact HR.out.2.trans (Gh.To.new g5 ((Chg.refl _ _).drewN _))
end Go.Proofs.Ytmmnoieafndgjaa

