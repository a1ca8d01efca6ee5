/-
  Part 18: what the statement needs of these texts: LvG, LvI.
-/
import Derived.BigQuiet
import Derived.Deep.DeepCutAuto
import Derived.Deep.DeepMust
import Derived.Deep.OwnRows
import Derived.Deep.QuietTactic
import Derived.Deep.RegionHeld3
import Derived.Deep.RegionLaw
import Derived.Deep.RegionWith
import Derived.Defers
import Derived.IntWalk
import Derived.Laws.BitsAllLaws
import Derived.Laws.PanicsMore
import Derived.Laws.Rows
import Derived.Laws.StructEq
import Derived.Lib.AppendStr
import Derived.Lib.Hide
import Derived.Lib.MinMax
import Derived.Lib.OthersKept
import Derived.Lib.Repeat
import Derived.Orders
import Derived.ProofKit
import Derived.Recover
import Derived.Shelf.Strings.Builder1
import Derived.Shelf.Strings.Prefix
import Derived.Shelf.Strings.Repeat
import Derived.StillTailTactics
import Derived.Test.YtmekmcgdjlmmcaaProg
import Derived.Test.YtmekmcgdjlmmcaaRows
import Derived.WalkKit
import Derived.WalkLawsBesides
import Derived.WalkSmall
import Derived.WalkSpells
import Derived.Test.YtmekmcgdjlmmcaaChn1
import Derived.Test.YtmekmcgdjlmmcaaChn2
import Derived.Test.YtmekmcgdjlmmcaaChn3
import Derived.Test.YtmekmcgdjlmmcaaChn4
import Derived.Test.YtmekmcgdjlmmcaaChn5
import Derived.Test.YtmekmcgdjlmmcaaChn6
import Derived.Test.YtmekmcgdjlmmcaaChn7
import Derived.Test.YtmekmcgdjlmmcaaChn8
import Derived.Test.YtmekmcgdjlmmcaaChn9
import Derived.Test.YtmekmcgdjlmmcaaChn10
import Derived.Test.YtmekmcgdjlmmcaaChn11
import Derived.Test.YtmekmcgdjlmmcaaChn12
import Derived.Test.YtmekmcgdjlmmcaaChn13
import Derived.Test.YtmekmcgdjlmmcaaChn14
import Derived.Test.YtmekmcgdjlmmcaaChn15
import Derived.Test.YtmekmcgdjlmmcaaChn17
namespace Go.Proofs.Ytmekmcgdjlmmcaa
open Go.RowKit Go.Deep
set_option linter.unusedVariables false
set_option linter.unusedSimpArgs false

theorem one_rec (w : World) (a : MsgM) (va : Value) : ∀ k p, [(a, va)][k]? = some p → ∀ i, i < 10 → (w.alloc (.cells #[.int .i64 a.kind, .int .i64 a.queue, .int .i64 a.due, .int .i64 a.retry, .int .i64 a.ref, .int .i64 a.born, .string a.topic, .string a.tag, .string a.body, va] 24)).cell? ⟨w.heap.size, k * 10 + i, none⟩ = (p.1.cells p.2)[i]? := by
  intro k p hp i hi
  have hc : ∀ j, (w.alloc (.cells #[.int .i64 a.kind, .int .i64 a.queue, .int .i64 a.due, .int .i64 a.retry, .int .i64 a.ref, .int .i64 a.born, .string a.topic, .string a.tag, .string a.body, va] 24)).cell? ⟨w.heap.size, j, none⟩ = (#[.int .i64 a.kind, .int .i64 a.queue, .int .i64 a.due, .int .i64 a.retry, .int .i64 a.ref, .int .i64 a.born, .string a.topic, .string a.tag, .string a.body, va] : Array Value)[j]? := (Box.new w _).cell
  rw [hc]
  match k, hp with
  | 0, hp =>
    simp only [List.getElem?_cons_zero, Option.some.injEq] at hp
    subst hp
    have : i = 0 ∨ i = 1 ∨ i = 2 ∨ i = 3 ∨ i = 4 ∨ i = 5 ∨ i = 6 ∨ i = 7 ∨ i = 8 ∨ i = 9 := by omega
    rcases this with rfl | rfl | rfl | rfl | rfl | rfl | rfl | rfl | rfl | rfl <;> rfl
  | k + 1, hp => simp at hp
theorem Fine.sound {m : MsgM} (h : Fine m) : Sound m := ⟨Nat.le_trans h.topic (by decide), Nat.le_trans h.tag (by decide), Nat.le_trans h.body (by decide), Nat.le_trans h.many (by decide), fun t ht => Nat.le_trans (h.keys t ht) (by decide)⟩
theorem Sized.below {w w' : World} {p : MsgM × Value} (h : Sized w p) (hb : Below w.heap.size w w') : Sized w' p := ⟨h.strs.below hb (Nat.le_refl _), h.body, h.topic, h.tag, h.many, h.keys⟩
theorem right_parts {m : MsgM} (h : rightB m = true) (hk : m.kind = 1 ∨ m.kind = 3) : tagB m.tag = true ∧ keysB m.keys = true ∧ m.body.size ≤ 200 ∧ 0 ≤ m.retry ∧ m.retry ≤ 4 := by
  have h2 := right_whole h hk
  unfold wholeB at h2
  simp only [Bool.and_eq_true, decide_eq_true_eq] at h2
  obtain ⟨_, h3, _, h5, h6, h7⟩ := h2
  unfold allIn at h3
  simp at h3
  exact ⟨h5, h6, h7, h3.1, h3.2⟩
theorem again_sound {m x : MsgM} (hf : Fine m) (_ : True) (_ : True) (ht : x.topic.size ≤ 1000) (h1 : x.tag = m.tag) (h2 : x.body = m.body) (h3 : x.keys = m.keys) : Sound x :=
  ⟨Nat.le_trans ht (by decide), by rw [h1]; exact hf.sound.tag, by rw [h2]; exact hf.sound.body, by rw [h3]; exact hf.sound.many, by rw [h3]; exact hf.sound.keys⟩
def IsTrue (w : World) (e : Ending) (w' : World) : Prop := e = .returned (.bool true) ∧ Below w.heap.size w w'
end Go.Proofs.Ytmekmcgdjlmmcaa

namespace Go.Proofs.Ytmekmcgdjlmmcaa
open Go.RowKit Go.Deep
set_option linter.unusedVariables false
set_option linter.unusedSimpArgs false

/-- What holds at the head of a round. -/
structure ChI (w : World) (m : MsgM) (vk : Value) (s : ByteArray) (now : Int) (B : Nat) (k : Nat) (at_ dl : Int) (x : MsgM) (a : Option Addr) (c : Nat) (wr : World) : Prop where
  below : Below w.heap.size w wr
  bm : Box wr w.heap.size (m.cells vk)
  bx : Box wr B (x.cells (.slice a m.keys.length c))
  strs : Strs wr 0 (.slice a m.keys.length c) m.keys
  cap : m.keys.length ≤ c
  retry : x.retry = (k : Int)
  tag : x.tag = m.tag
  body : x.body = m.body
  keys : x.keys = m.keys
  kind : x.kind = 1 ∨ x.kind = 3
  topic : x.topic.size ≤ 1000
  right : 0 < k → groupB s = true ∧ rightB x = true ∧ x.kind = 3
  at0 : now ≤ at_
  at1 : at_ ≤ now + 16 * (k : Int)
  dl_ : dl = delayN (k : Int)
theorem again_neg {x : MsgM} {id now : Int} {s : ByteArray} (h : groupB s = false ∨ (mayB x && (smallB id && smallB now)) = false) : againM x id s now = (zeroM, 11) ∨ againM x id s now = (zeroM, 1) := by
  unfold againM
  by_cases hg : groupB s = false
  · rw [if_pos hg]; exact .inl rfl
  · rw [if_neg hg]
    rcases h with h | h
    · exact absurd h hg
    · rw [if_pos h]; exact .inr rfl
theorem again_pos {x : MsgM} {id now : Int} {s : ByteArray} (hg : groupB s = true) (h : (mayB x && (smallB id && smallB now)) = true) : againM x id s now = if x.retry < 4 then (reM x id (retryH ++ s) now, 0) else (upM x (deadH ++ s) now, 0) := by
  unfold againM
  rw [if_neg (by rw [hg]; decide), if_neg (by rw [h]; decide)]
theorem right_next {x : MsgM} {id at_ d : Int} {s : ByteArray} (hg : groupB s = true) (h : mayB x = true) (h4 : x.retry < 4) (hi : 0 ≤ id ∧ id ≤ 1000) (hn : 0 ≤ at_ ∧ at_ ≤ 1000000000000) (hd : 0 ≤ d ∧ d ≤ 16) : rightB ⟨3, 0, at_ + d, x.retry + 1, id, at_ + d, retryH ++ s, x.tag, x.body, x.keys⟩ = true := by
  obtain ⟨h1, hk⟩ := may_right h
  obtain ⟨h5, h6, h7, h8, h9⟩ := right_parts h1 hk
  obtain ⟨hi1, hi2⟩ := hi
  obtain ⟨hn1, hn2⟩ := hn
  obtain ⟨hd1, hd2⟩ := hd
  unfold rightB restB wholeB MsgM.nums allIn
  dsimp only
  rw [h5, h6, retry_topic hg]
  simp
  omega
theorem delay_up (k : Nat) (h : k < 4) : delayN (k : Int) < delayN ((k : Int) + 1) := by
  have : k = 0 ∨ k = 1 ∨ k = 2 ∨ k = 3 := by omega
  rcases this with rfl | rfl | rfl | rfl <;> decide
attribute [local go_sem] fr_opt in
set_option maxHeartbeats 8000000 in
set_option maxRecDepth 100000 in
theorem chain_law (m : MsgM) (vk : Value) (s : ByteArray) (now : Int) (w : World) (hz : Sized w (m, vk)) (hcap : CapOk vk) (hnow : 0 ≤ now ∧ now ≤ 4294967295) :
    Calls Try.prog 4 #[m.val vk, .string s, .int .u32 now] w (IsTrue w) := by
  have hzs : Strs w 0 vk m.keys := hz.strs
  obtain ⟨va, vc, hvk⟩ := hzs.form
  subst hvk
  have hvc : m.keys.length ≤ vc := by obtain ⟨a', l', c', h, h2⟩ := hcap; cases h; exact h2
  obtain ⟨W0, hW0⟩ : ∃ W, W = w.alloc (.cells #[.int .i64 m.kind, .int .i64 m.queue, .int .i64 m.due, .int .i64 m.retry, .int .i64 m.ref, .int .i64 m.born, .string m.topic, .string m.tag, .string m.body, (.slice va m.keys.length vc)] 24) := ⟨_, rfl⟩
  have hl0 : Below w.heap.size w W0 := by rw [hW0]; exact (Below.refl w.heap.size w).alloc (Nat.le_refl _) _
  have hbm : Box W0 w.heap.size #[.int .i64 m.kind, .int .i64 m.queue, .int .i64 m.due, .int .i64 m.retry, .int .i64 m.ref, .int .i64 m.born, .string m.topic, .string m.tag, .string m.body, (.slice va m.keys.length vc)] := by rw [hW0]; exact Box.new w _
  obtain ⟨nl, hnl⟩ : ∃ n, n = m.keys.length := ⟨_, rfl⟩
  have HW0 := Lib.hid hW0
  have HL0 := Lib.hid hl0
  have HBM := Lib.hid hbm
  have HZ := Lib.hid hz
  have HCAP := Lib.hid hcap
  have HVC := Lib.hid hvc
  have k0 := hbm.cell
  have hnow0 := hnow.1
  have hnow1 := hnow.2
  clear hz hcap hW0 hl0 hbm hvc hnow
  unfold MsgM.val
  unfold MsgM.cells at *
  go_enter Try.func4, Try.ntmps4
  go_wp2_with fail
  rw [← HW0.out]
  refine (lawake_any _).mono ?_
  rintro e w1 ⟨rfl, rfl⟩
  go_wp2_with fail
  obtain ⟨W3, hW3⟩ : ∃ W, W = W0.alloc (.cells #[.int .i64 m.kind, .int .i64 m.queue, .int .i64 m.due, .int .i64 m.retry, .int .i64 m.ref, .int .i64 m.born, .string m.topic, .string m.tag, .string m.body, (.slice va m.keys.length vc)] 24) := ⟨_, rfl⟩
  rw [← hW3]
  have hl3 : Below W0.heap.size W0 W3 := by rw [hW3]; exact (Below.refl _ _).alloc (Nat.le_refl _) _
  have h3o : ∀ k p, [(m, (.slice va m.keys.length vc))][k]? = some p → ∀ i, i < 10 → W3.cell? ⟨W0.heap.size, k * 10 + i, none⟩ = (p.1.cells p.2)[i]? := by rw [hW3]; exact one_rec W0 m (.slice va m.keys.length vc)
  have hlt3 : W0.heap.size < W3.heap.size := by rw [hW3, World.size_alloc]; exact Nat.lt_succ_self _
  have hz3 : Sized W3 (m, (.slice va m.keys.length vc)) := (HZ.out.below HL0.out).below hl3
  refine (great_any [(m, (.slice va m.keys.length vc))] W0.heap.size 1 W3 hlt3 rfl (by decide) (fun p hp => by rw [List.mem_singleton.1 hp]; exact hz3) h3o).mono ?_
  rintro e w4 ⟨x, rfl, hfine, hb4⟩
  have hl4 := hl3.trans (hb4.mono hl3.size)
  have hbm4 := HBM.out.below hl4 HBM.out.lt
  have hz4 := (HZ.out.below HL0.out).below hl4
  have HL4 := Lib.hid (HL0.out.trans (hl4.mono HL0.out.size))
  have HBM4 := Lib.hid hbm4
  have HZ4 := Lib.hid hz4
  have HFINE := Lib.hid hfine
  clear k0 hW3 hl3 h3o hlt3 hz3 hb4 hl4 hz4 hfine
  cases x
  case true =>
    clear hbm4
    go_wp2_with fail
    go_ret
    exact ⟨rfl, HL4.out⟩
  have k0 := hbm4.cell
  clear hbm4
  by_cases hlen : (100 : Int) < s.size
  · have hle : decide ((100 : Int) < s.size) = true := decide_eq_true hlen
    go_wp2_with fail
    go_ret
    exact ⟨rfl, HL4.out⟩
  have hle : decide ((100 : Int) < s.size) = false := decide_eq_false hlen
  by_cases hk1 : m.kind = 1
  case neg =>
    have z1 : (m.kind != 1) = true := by simp [hk1]
    go_wp2_with fail
    go_ret
    exact ⟨rfl, HL4.out⟩
  have z1 : (m.kind != 1) = false := by rw [hk1]; rfl
  have HK1 := Lib.hid hk1
  clear hk1
  by_cases hr0 : m.retry = 0
  case neg =>
    have z2 : (m.retry != 0) = true := by simp [hr0]
    go_wp2_with fail
    go_ret
    exact ⟨rfl, HL4.out⟩
  have z2 : (m.retry != 0) = false := by rw [hr0]; rfl
  have HR0 := Lib.hid hr0
  clear hr0
  have hsz : s.size ≤ maxLen := by unfold maxLen; omega
  have hfn : Fine m := HFINE.out rfl _ (List.mem_singleton.2 rfl)
  have HFN := Lib.hid hfn
  have HSZ := Lib.hid hsz
  have hs100 : s.size ≤ 100 := by omega
  go_upto_region 6 with fail
  obtain ⟨W5, hW5⟩ : ∃ W, W = w4.alloc (.cells #[.int .i64 m.kind, .int .i64 m.queue, .int .i64 m.due, .int .i64 m.retry, .int .i64 m.ref, .int .i64 m.born, .string m.topic, .string m.tag, .string m.body, (.slice va m.keys.length vc)] 24) := ⟨_, rfl⟩
  obtain ⟨B, hB⟩ : ∃ b, b = w4.heap.size := ⟨_, rfl⟩
  rw [← hW5, ← hB]
  have hl5 : Below w4.heap.size w4 W5 := by rw [hW5]; exact (Below.refl _ _).alloc (Nat.le_refl _) _
  have HPB : Hid (w.heap.size < B) := Lib.hid (by rw [hB]; exact HBM4.out.lt)
  have HI0 : Hid (ChI w m (.slice va m.keys.length vc) s now B 0 now 0 m va vc W5) := Lib.hid
    ⟨HL4.out.trans (hl5.mono HL4.out.size), HBM4.out.below hl5 HBM4.out.lt, by rw [hW5, hB]; exact Box.new w4 _, (HZ4.out.below hl5).strs, HVC.out, HR0.out, rfl, rfl, rfl, .inl HK1.out, Nat.le_trans HFN.out.topic (by decide), fun h => absurd h (Nat.lt_irrefl _), Int.le_refl _, by omega, rfl⟩
  clear k0 hW5 hB hl5 HBM4 HZ4 HL4 HW0 HL0 HBM HFINE HCAP HVC hfn hsz z1 z2 hle
  go_wp2_with fail
  go_loopw [8, 9, 10] (fun a8 a9 a10 wr => ∃ (k : Nat) (at_ dl : Int) (x : MsgM) (a : Option Addr) (c : Nat), k ≤ 4 ∧ a8 = .int .i64 at_ ∧ a9 = .int .i64 dl ∧ a10 = .int .i64 (k : Int) ∧ Hid (ChI w m (.slice va m.keys.length vc) s now B k at_ dl x a c wr)) (fun _ _ a10 _ => 5 - (intOf a10).toNat)
  case atStart => exact ⟨0, now, 0, m, va, vc, by omega, rfl, rfl, rfl, HI0⟩
  case round =>
    obtain ⟨k, at_, dl, x, xs, xc, hk, rfl, rfl, rfl, HI⟩ := hrel
    clear HI0
    have hi := HI.out
    obtain ⟨x1, x2, x3, x4, x5, x6, x7, x8, x9, x10⟩ := x
    obtain ⟨i1, i2, i3, i4, i5, i6, i7, i8, i9, i10, i11, i12, i13, i14, i15⟩ := hi
    dsimp only at i6 i7 i8 i9 i10 i11 i12
    subst i6 i7 i8 i9
    unfold MsgM.cells at i2 i3
    dsimp only at i2 i3
    have kx := i3.cell
    have hfn := HFN.out
    have hsd : Sound ⟨x1, x2, x3, (k : Int), x5, x6, x7, m.tag, m.body, m.keys⟩ := again_sound hfn trivial trivial i11 rfl rfl rfl
    have hsm1 : smallB (100 + (k : Int)) = true := by unfold smallB; rw [decide_eq_true (show (0 : Int) ≤ 100 + (k : Int) by omega), decide_eq_true (show 100 + (k : Int) ≤ 1099511626776 by omega)]; rfl
    have hsm2 : smallB at_ = true := by unfold smallB; rw [decide_eq_true (show (0 : Int) ≤ at_ by omega), decide_eq_true (show at_ ≤ 1099511626776 by omega)]; rfl
    have hat0 : 0 ≤ at_ := by omega
    have hat1 : at_ ≤ 5000000000 := by omega
    obtain ⟨xm, hxm⟩ : ∃ x : MsgM, x = ⟨x1, x2, x3, (k : Int), x5, x6, x7, m.tag, m.body, m.keys⟩ := ⟨_, rfl⟩
    have HSM := Lib.hid (And.intro hsm1 hsm2)
    have HXM := Lib.hid hxm
    have HI1 := Lib.hid i1
    have HI2 := Lib.hid i2
    have HI3 := Lib.hid i3
    have HI4 := Lib.hid i4
    have HI5 := Lib.hid i5
    have HI12 := Lib.hid i12
    have HI13 := Lib.hid (And.intro i13 i14)
    have HI15 := Lib.hid i15
    have hns : m.keys.length ≤ 10000 := Nat.le_trans hfn.many (by decide)
    have HNS := Lib.hid hns
    have HSD := Lib.hid hsd
    have HAG : Hid (∀ xa, againM xm (100 + (k : Int)) s at_ = xa → Calls Try.prog 8 #[.agg #[.int .i64 x1, .int .i64 x2, .int .i64 x3, .int .i64 (k : Int), .int .i64 x5, .int .i64 x6, .string x7, .string m.tag, .string m.body, .slice xs m.keys.length xc], .int .i64 (100 + (k : Int)), .string s, .int .i64 at_] wr (AgainTo xa wr)) := Lib.hid fun xa hxa => again_any ⟨x1, x2, x3, (k : Int), x5, x6, x7, m.tag, m.body, m.keys⟩ (.slice xs m.keys.length xc) (100 + (k : Int)) s at_ xa wr HI4.out ⟨_, _, _, rfl, HI5.out⟩ HSD.out HNS.out HSZ.out (by rw [← HXM.out]; exact hxa)
    clear i1 i2 i3 i4 i5 i11 i12 i13 i14 i15 hsd hfn hsm1 hsm2 hxm hns HI
    by_cases hok : groupB s = true ∧ (mayB xm && (smallB (100 + (k : Int)) && smallB at_)) = true
    case neg =>
      have hk0 : k = 0 := by
        rcases Nat.eq_zero_or_pos k with h | h
        · exact h
        · exfalso
          obtain ⟨g1, g2, g3⟩ := HI12.out h
          refine hok ⟨g1, ?_⟩
          rw [HSM.out.1, HSM.out.2, HXM.out]
          unfold mayB
          rw [g2]
          simp [g3]
      subst hk0
      have hneg : groupB s = false ∨ (mayB xm && (smallB (100 + ((0 : Nat) : Int)) && smallB at_)) = false := by
        by_cases hg : groupB s = true
        · refine .inr (Bool.eq_false_iff.2 fun h => hok ⟨hg, h⟩)
        · exact .inl (by simpa using hg)
      have HNEG := Lib.hid (again_neg hneg)
      clear hneg hok
      rcases HNEG.out with hxa | hxa
      all_goals
        have HC := Lib.hid (HAG.out _ hxa)
        clear hxa
        go_wp2_with fail
        refine HC.out.mono ?_
        rintro e w5 ⟨ka, kl, kc, rfl, hown, hb5⟩
        have HB5 := Lib.hid (HI1.out.trans (hb5.mono HI1.out.size))
        unfold MsgM.val MsgM.cells zeroM
        clear hown hb5 kx
        go_wp2_with fail
        go_ret
        refine ⟨rfl, ?_⟩
        exact HB5.out.alloc HB5.out.size _
    case pos =>
      obtain ⟨hg, hmb⟩ := hok
      have hmay : mayB xm = true := by rw [Bool.and_eq_true] at hmb; exact hmb.1
      have hxr : xm.retry = (k : Int) := by rw [HXM.out]
      by_cases h4 : k < 4
      case neg =>
        obtain rfl : k = 4 := by omega
        have hxa : againM xm (100 + ((4 : Nat) : Int)) s at_ = (upM xm (deadH ++ s) at_, 0) := by rw [again_pos hg hmb, if_neg (by rw [hxr]; decide)]
        have HC := Lib.hid (HAG.out _ hxa)
        clear hxa hg hmb hmay hxr h4
        have hadd1 : ∀ W, (Op.stringOp .add ⟨#[37, 100, 101, 97, 100, 37]⟩ s).run Try.prog W = .ok (.string (deadH ++ s)) W := fun W => run_string_add W _ s (by decide) (by omega)
        go_wp2_with fail
        refine HC.out.mono ?_
        rintro e w5 ⟨ka, kl, kc, rfl, hown, hb5⟩
        have HB5 := Lib.hid (HI1.out.trans (hb5.mono HI1.out.size))
        have hkl : kl = m.keys.length := by obtain ⟨_, _, e, _⟩ := owns_cap hown; injection e with _ e _; rw [e]; show xm.keys.length = _; rw [HXM.out]
        subst hkl
        have hm5 := HI2.out.below hb5 HI2.out.lt
        rw [HXM.out]
        unfold MsgM.val MsgM.cells upM
        dsimp only
        clear hown kx
        go_upto_region 11 with fail
        obtain ⟨W6, hW6⟩ : ∃ W, W = w5.alloc (.cells #[.int .i64 1, .int .i64 0, .int .i64 0, .int .i64 4, .int .i64 0, .int .i64 at_, .string (deadH ++ s), .string m.tag, .string m.body, .slice ka m.keys.length kc] 24) := ⟨_, rfl⟩
        rw [← hW6]
        have hl6 : Below w5.heap.size w5 W6 := by rw [hW6]; exact (Below.refl _ _).alloc (Nat.le_refl _) _
        have ky : ∀ i, W6.cell? ⟨w5.heap.size, i, none⟩ = (#[.int .i64 1, .int .i64 0, .int .i64 0, .int .i64 4, .int .i64 0, .int .i64 at_, .string (deadH ++ s), .string m.tag, .string m.body, .slice ka m.keys.length kc] : Array Value)[i]? := by rw [hW6]; exact (Box.new w5 _).cell
        have km := (hm5.below hl6 hm5.lt).cell
        have HB6 := Lib.hid (HB5.out.trans (hl6.mono HB5.out.size))
        clear hW6 hl6 hm5 hb5
        go_wp2_with fail
        go_ret
        exact ⟨rfl, HB6.out⟩
      case pos =>
        obtain ⟨d, hd⟩ : ∃ d, delayN ((k : Int) + 1) = d := ⟨_, rfl⟩
        have hd0 : 0 ≤ d ∧ d ≤ 16 := hd ▸ delayN_le _
        obtain ⟨hd0, hd1⟩ := hd0
        have hdl : dl < d := by rw [HI15.out, ← hd]; exact delay_up k h4
        have hdl0 : 0 ≤ dl := by rw [HI15.out]; exact (delayN_le _).1
        have hxa : againM xm (100 + (k : Int)) s at_ = (reM xm (100 + (k : Int)) (retryH ++ s) at_, 0) := by rw [again_pos hg hmb, if_pos (by rw [hxr]; omega)]
        have hrx : rightB ⟨3, 0, at_ + d, (k : Int) + 1, 100 + (k : Int), at_ + d, retryH ++ s, m.tag, m.body, m.keys⟩ = true := by
          have := right_next (x := xm) (id := 100 + (k : Int)) (at_ := at_) (d := d) hg hmay (by rw [hxr]; omega) ⟨by omega, by omega⟩ ⟨hat0, by omega⟩ ⟨hd0, hd1⟩
          rw [HXM.out] at this
          exact this
        have HRX := Lib.hid (And.intro hg hrx)
        have HC := Lib.hid (HAG.out _ hxa)
        have HD := Lib.hid hd
        have z5 : ((k : Int) == 4) = false := by simp; omega
        have zd : decide (at_ + d - at_ ≤ dl) = false := decide_eq_false (by omega)
        have zd2 : decide (d ≤ dl) = false := decide_eq_false (by omega)
        clear hxa hg hmb hmay hxr hrx
        go_wp2_with fail
        refine HC.out.mono ?_
        rintro e w5 ⟨ka, kl, kc, rfl, hown, hb5⟩
        have HB5 := Lib.hid (HI1.out.trans (hb5.mono HI1.out.size))
        have hkl : kl = m.keys.length ∧ m.keys.length ≤ kc := by
          obtain ⟨_, _, e, hc⟩ := owns_cap hown
          injection e with _ e e2
          have hl : (reM xm (100 + (k : Int)) (retryH ++ s) at_).keys.length = m.keys.length := by show xm.keys.length = _; rw [HXM.out]
          rw [← hl]
          exact ⟨e, by rw [e2]; exact hc⟩
        obtain ⟨hkl, hkc⟩ := hkl
        subst hkl
        have hm5 := HI2.out.below hb5 HI2.out.lt
        have hx5 := HI3.out.below hb5 HI3.out.lt
        have HOW : Hid (w5.ownsRow 0 9 1 (.slice ka m.keys.length kc) m.keys.length (m.keys.map Value.string)) := Lib.hid (by
          have := owns_base hown (Nat.zero_le _)
          rw [HXM.out] at this
          exact this)
        rw [HXM.out]
        unfold MsgM.val MsgM.cells reM
        dsimp only
        rw [HD.out]
        clear hown kx hd
        go_upto_region 11 with fail
        obtain ⟨W6, hW6⟩ : ∃ W, W = w5.alloc (.cells #[.int .i64 2, .int .i64 0, .int .i64 (at_ + d), .int .i64 ((k : Int) + 1), .int .i64 (100 + (k : Int)), .int .i64 at_, .string (retryH ++ s), .string m.tag, .string m.body, .slice ka m.keys.length kc] 24) := ⟨_, rfl⟩
        rw [← hW6]
        have hl6 : Below w5.heap.size w5 W6 := by rw [hW6]; exact (Below.refl _ _).alloc (Nat.le_refl _) _
        have hy6 : Box W6 w5.heap.size #[.int .i64 2, .int .i64 0, .int .i64 (at_ + d), .int .i64 ((k : Int) + 1), .int .i64 (100 + (k : Int)), .int .i64 at_, .string (retryH ++ s), .string m.tag, .string m.body, .slice ka m.keys.length kc] := by rw [hW6]; exact Box.new w5 _
        have hm6 := hm5.below hl6 hm5.lt
        have hx6 := hx5.below hl6 hx5.lt
        have ky := hy6.cell
        have km := hm6.cell
        have kx := hx6.cell
        have kf := hx6.free
        have HB6 := Lib.hid (HB5.out.trans (hl6.mono HB5.out.size))
        have HM6 := Lib.hid hm6
        have HX6 := Lib.hid hx6
        have HO6 := Lib.hid (owns_on HOW.out hl6)
        clear hW6 hl6 hm5 hx5 hb5 hy6 hm6 hx6
        go_upto_region 22 with fail
        obtain ⟨W7, hW7⟩ : ∃ W, W = set10 W6 B (.int .i64 2) (.int .i64 0) (.int .i64 (at_ + d)) (.int .i64 ((k : Int) + 1)) (.int .i64 (100 + (k : Int))) (.int .i64 at_) (.string (retryH ++ s)) (.string m.tag) (.string m.body) (.slice ka m.keys.length kc) := ⟨_, rfl⟩
        have hx7 : Box W7 B #[.int .i64 2, .int .i64 0, .int .i64 (at_ + d), .int .i64 ((k : Int) + 1), .int .i64 (100 + (k : Int)), .int .i64 at_, .string (retryH ++ s), .string m.tag, .string m.body, .slice ka m.keys.length kc] := by rw [hW7]; exact HasBox.fill ⟨_, HX6.out, rfl⟩ _ _ _ _ _ _ _ _ _ _
        have hm7 : Box W7 w.heap.size #[.int .i64 m.kind, .int .i64 m.queue, .int .i64 m.due, .int .i64 m.retry, .int .i64 m.ref, .int .i64 m.born, .string m.topic, .string m.tag, .string m.body, (.slice va m.keys.length vc)] := by rw [hW7]; exact HM6.out.off10 (by have := HPB.out; omega) _ _ _ _ _ _ _ _ _ _
        have ho7 : W7.ownsRow 0 9 1 (.slice ka m.keys.length kc) m.keys.length (m.keys.map Value.string) := by rw [hW7]; exact owns_box HO6.out HX6.out _ _ _ _ _ _ _ _ _ _
        have hb7 : Below w.heap.size w W7 := by rw [hW7]; exact below_set10 HB6.out (Nat.le_of_lt HPB.out) _ _ _ _ _ _ _ _ _ _
        unfold set10 at hW7
        rw [← hW7]
        clear ky km kx kf hW7
        have kx := hx7.cell
        have kf := hx7.free
        have HX7 := Lib.hid hx7
        have HM7 := Lib.hid hm7
        have HO7 := Lib.hid ho7
        have HB7 := Lib.hid hb7
        have HKC := Lib.hid hkc
        clear hx7 hm7 ho7 hb7 hkc
        go_wp2_with fail
        refine ⟨⟨k + 1, at_ + d, at_ + d - at_, ⟨3, 0, at_ + d, (k : Int) + 1, 100 + (k : Int), at_ + d, retryH ++ s, m.tag, m.body, m.keys⟩, ka, kc, by omega, rfl, rfl, by go_num, Lib.hid ?_⟩, by simp [intOf]; omega⟩
        have hne : w.heap.size ≠ B := by have := HPB.out; omega
        refine ⟨(HB7.out.setCell (Nat.le_of_lt HPB.out) _).setCell (Nat.le_of_lt HPB.out) _, (HM7.out.setO hne 0 _).setO hne 5 _, (HX7.out.set 0 _).set 5 _, Oc.strs_own (owns_set1 (owns_set1 HO7.out HX7.out 0 _) (HX7.out.set 0 _) 5 _), HKC.out, by push_cast; rfl, rfl, rfl, rfl, .inr rfl, ?_, fun _ => ⟨HRX.out.1, HRX.out.2, rfl⟩, ?_, ?_, ?_⟩
        · show (retryH ++ s).size ≤ 1000
          rw [ByteArray.size_append]
          have : retryH.size = 7 := rfl
          omega
        · have := HI13.out.1; omega
        · have := HI13.out.2; push_cast; omega
        · rw [show ((k + 1 : Nat) : Int) = (k : Int) + 1 by push_cast; rfl, HD.out]; omega
end Go.Proofs.Ytmekmcgdjlmmcaa

