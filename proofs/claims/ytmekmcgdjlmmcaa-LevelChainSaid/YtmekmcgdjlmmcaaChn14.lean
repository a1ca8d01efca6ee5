/-
  Part 14: what the statement needs of these texts: RecT, RecV.
-/
import Derived.BigQuiet
import Derived.Deep.DeepCutAuto
import Derived.Deep.DeepMust
import Derived.Deep.OwnRows
import Derived.Deep.QuietTactic
import Derived.Deep.RegionHeld3
import Derived.Deep.RegionLaw
import Derived.Deep.RegionWith
import Derived.Defers
import Derived.Laws.BitsAllLaws
import Derived.Laws.PanicsMore
import Derived.Laws.Rows
import Derived.Laws.StructEq
import Derived.Lib.AppendStr
import Derived.Lib.Hide
import Derived.Lib.OthersKept
import Derived.Lib.Repeat
import Derived.ProofKit
import Derived.Recover
import Derived.Shelf.Strings.Builder1
import Derived.Shelf.Strings.Prefix
import Derived.Shelf.Strings.Repeat
import Derived.StillTailTactics
import Derived.Test.YtmekmcgdjlmmcaaProg
import Derived.Test.YtmekmcgdjlmmcaaRows
import Derived.WalkKit
import Derived.WalkLawsBesides
import Derived.WalkSmall
import Derived.WalkSpells
import Derived.Test.YtmekmcgdjlmmcaaChn1
import Derived.Test.YtmekmcgdjlmmcaaChn2
import Derived.Test.YtmekmcgdjlmmcaaChn3
import Derived.Test.YtmekmcgdjlmmcaaChn4
import Derived.Test.YtmekmcgdjlmmcaaChn5
import Derived.Test.YtmekmcgdjlmmcaaChn7
import Derived.Test.YtmekmcgdjlmmcaaChn9
import Derived.Test.YtmekmcgdjlmmcaaChn10
import Derived.Test.YtmekmcgdjlmmcaaChn11
import Derived.Test.YtmekmcgdjlmmcaaChn12
import Derived.Test.YtmekmcgdjlmmcaaChn13
namespace Go.Proofs.Ytmekmcgdjlmmcaa
open Go.RowKit Go.Deep
set_option linter.unusedVariables false
set_option linter.unusedSimpArgs false

theorem owns_set {w : World} {base b : Nat} {e : TypeId} {n k : Nat} {v : Value} {xs : List Value} (h : w.ownsRow base e n v k xs) (hb : b < base) (i : Nat) (u : Value) : (w.setCell ⟨b, i, none⟩ u).ownsRow base e n v k xs := by
  obtain ⟨h1, h2⟩ := h
  refine ⟨h1, ?_⟩
  rcases h2 with h2 | ⟨g, cap, cur, rfl, hg, hh, h3⟩
  · exact .inl h2
  · exact .inr ⟨g, cap, cur, rfl, hg, (Below.heap_setCell _ _ _ _ (by show g ≠ b; omega)).trans hh, h3⟩
theorem owns_set10 {w : World} {base P : Nat} {e : TypeId} {n k : Nat} {v : Value} {xs : List Value} (h : w.ownsRow base e n v k xs) (hb : P < base) (c0 c1 c2 c3 c4 c5 c6 c7 c8 c9 : Value) : (set10 w P c0 c1 c2 c3 c4 c5 c6 c7 c8 c9).ownsRow base e n v k xs :=
  owns_set (owns_set (owns_set (owns_set (owns_set (owns_set (owns_set (owns_set (owns_set (owns_set h hb _ _) hb _ _) hb _ _) hb _ _) hb _ _) hb _ _) hb _ _) hb _ _) hb _ _) hb _ _
theorem owns_form {w : World} {base : Nat} {e : TypeId} {n k : Nat} {v : Value} {xs : List Value} (h : w.ownsRow base e n v k xs) : ∃ a l c, v = .slice a l c := by
  rcases h.2 with ⟨rfl, _⟩ | ⟨g, cap, cur, rfl, _⟩
  · exact ⟨_, _, _, rfl⟩
  · exact ⟨_, _, _, rfl⟩
def CopyTo (m : MsgM) (w : World) (e : Ending) (w' : World) : Prop := ∃ vk, e = .returned (m.val vk) ∧ w'.ownsRow (w.heap.size + 2) 9 1 vk m.keys.length (m.keys.map Value.string) ∧ Below w.heap.size w w'
set_option maxHeartbeats 2000000 in
set_option maxRecDepth 100000 in
theorem copy_any (m : MsgM) (vk : Value) (w : World) (hk : Strs w 0 vk m.keys) (hn : m.keys.length ≤ 10000) : Calls Try.prog 41 #[m.val vk] w (CopyTo m w) := by
  obtain ⟨W1, hW1⟩ : ∃ W, W = (w.alloc (.cells #[.int .i64 m.kind, .int .i64 m.queue, .int .i64 m.due, .int .i64 m.retry, .int .i64 m.ref, .int .i64 m.born, .string m.topic, .string m.tag, .string m.body, vk] 24)).alloc (.cells #[.int .i64 0, .int .i64 0, .int .i64 0, .int .i64 0, .int .i64 0, .int .i64 0, .string ⟨#[]⟩, .string ⟨#[]⟩, .string ⟨#[]⟩, .slice none 0 0] 24) := ⟨_, rfl⟩
  have hb1 : Below w.heap.size w W1 := by
    rw [hW1]
    exact ((Below.refl w.heap.size w).alloc (Nat.le_refl _) _).alloc (by simp only [World.size_alloc]; omega) _
  have hbm : Box W1 w.heap.size #[.int .i64 m.kind, .int .i64 m.queue, .int .i64 m.due, .int .i64 m.retry, .int .i64 m.ref, .int .i64 m.born, .string m.topic, .string m.tag, .string m.body, vk] := by rw [hW1]; exact (Box.new w _).alloc _
  have hbz : Box W1 (w.heap.size + 1) zc := by
    have := Box.new (w.alloc (.cells (m.cells vk) 24)) zc
    rw [World.size_alloc] at this
    rw [hW1]
    exact this
  have hz1 : W1.heap.size = w.heap.size + 2 := by rw [hW1, World.size_alloc, World.size_alloc]
  have hown : W1.ownsRow W1.heap.size 9 1 (.slice none 0 0) 0 [] := ⟨rfl, .inl ⟨rfl, rfl⟩⟩
  have hst := hk.below hb1 (Nat.le_refl _)
  have HOWN := Lib.hid hown
  have HB1 := Lib.hid hb1
  have HST := Lib.hid hst
  have HW1 := Lib.hid hW1
  have HBM := Lib.hid hbm
  have HBZ := Lib.hid hbz
  have HZ1 := Lib.hid hz1
  clear hb1 hown hst hk hW1 hbm hbz hz1
  unfold MsgM.val
  unfold MsgM.cells at *
  go_enter Try.func41, Try.ntmps41
  go_wp2_with (at_builtin; rw [← HW1.out]; go_must (refine Oc.wpList_append_strs rfl _ _ rfl W1.heap.size _ _ 0 [] m.keys rfl rfl HOWN.out HST.out (by omega) (Nat.le_refl _) ?_))
  intro v1 w4 ho hgr
  have hb4 := below_grown (Below.refl W1.heap.size W1) hgr (Nat.le_refl _)
  rw [HZ1.out] at ho
  replace ho : w4.ownsRow (w.heap.size + 2) 9 1 v1 m.keys.length (m.keys.map Value.string) := by simpa using ho
  obtain ⟨a4, l4, c4, rfl⟩ := owns_form ho
  have hm4 := HBM.out.below hb4 HBM.out.lt
  have hz4 := HBZ.out.below hb4 HBZ.out.lt
  have HO := Lib.hid ho
  have HB4 := Lib.hid (HB1.out.trans (hb4.mono HB1.out.size))
  have HM4 := Lib.hid hm4
  have HZ4 := Lib.hid hz4
  have kc := hm4.cell
  have kf := hm4.free
  have zcc := hz4.cell
  have zf := hz4.free
  simp only [zc] at zcc
  clear ho hgr hb4 hm4 hz4
  go_wp2_with fail
  obtain ⟨W, hW⟩ : ∃ W, W = set10 (w4.setCell ⟨w.heap.size, 9, none⟩ (.slice a4 l4 c4)) (w.heap.size + 1) (.int .i64 m.kind) (.int .i64 m.queue) (.int .i64 m.due) (.int .i64 m.retry) (.int .i64 m.ref) (.int .i64 m.born) (.string m.topic) (.string m.tag) (.string m.body) (.slice a4 l4 c4) := ⟨_, rfl⟩
  have hbx : Box W (w.heap.size + 1) #[.int .i64 m.kind, .int .i64 m.queue, .int .i64 m.due, .int .i64 m.retry, .int .i64 m.ref, .int .i64 m.born, .string m.topic, .string m.tag, .string m.body, .slice a4 l4 c4] := by rw [hW]; exact box_set10 (HZ4.out.setO (by omega) 9 (.slice a4 l4 c4)) (.int .i64 m.kind) (.int .i64 m.queue) (.int .i64 m.due) (.int .i64 m.retry) (.int .i64 m.ref) (.int .i64 m.born) (.string m.topic) (.string m.tag) (.string m.body) (.slice a4 l4 c4)
  have hbl : Below w.heap.size w W := by rw [hW]; exact below_set10 (HB4.out.setCell (Nat.le_refl _) (.slice a4 l4 c4)) (Nat.le_succ _) (.int .i64 m.kind) (.int .i64 m.queue) (.int .i64 m.due) (.int .i64 m.retry) (.int .i64 m.ref) (.int .i64 m.born) (.string m.topic) (.string m.tag) (.string m.body) (.slice a4 l4 c4)
  have hst : W.ownsRow (w.heap.size + 2) 9 1 (.slice a4 l4 c4) m.keys.length (m.keys.map Value.string) := by rw [hW]; exact owns_set10 (owns_set HO.out (by omega) 9 (.slice a4 l4 c4)) (by omega) (.int .i64 m.kind) (.int .i64 m.queue) (.int .i64 m.due) (.int .i64 m.retry) (.int .i64 m.ref) (.int .i64 m.born) (.string m.topic) (.string m.tag) (.string m.body) (.slice a4 l4 c4)
  unfold set10 at hW
  rw [← hW]
  have hpm := Box.cell hbx
  exact bodyPost_ret (v := m.val (.slice a4 l4 c4)) (by simp [results, Try.results41, go_sem, hpm, MsgM.val, MsgM.cells]) rfl ⟨_, rfl, hst, hbl⟩
end Go.Proofs.Ytmekmcgdjlmmcaa

namespace Go.Proofs.Ytmekmcgdjlmmcaa
open Go.RowKit Go.Deep
set_option linter.unusedVariables false
set_option linter.unusedSimpArgs false

/-- Not more than is played. -/
structure Fine (m : MsgM) : Prop where
  body : m.body.size ≤ 2000
  topic : m.topic.size ≤ 100
  tag : m.tag.size ≤ 100
  many : m.keys.length ≤ 10
  keys : ∀ t ∈ m.keys, t.size ≤ 100
structure Sized (w : World) (p : MsgM × Value) : Prop where
  strs : Strs w 0 p.2 p.1.keys
  body : p.1.body.size ≤ maxLen
  topic : p.1.topic.size ≤ maxLen
  tag : p.1.tag.size ≤ maxLen
  many : p.1.keys.length ≤ maxLen
  keys : ∀ t ∈ p.1.keys, t.size ≤ maxLen
def GreatTo (ms : List (MsgM × Value)) (w : World) (e : Ending) (w' : World) : Prop := ∃ x, e = .returned (.bool x) ∧ (x = false → ∀ p ∈ ms, Fine p.1) ∧ Below w.heap.size w w'
theorem take_more {ts : List ByteArray} {j : Nat} {t : ByteArray} {n : Nat} (h : ∀ t ∈ ts.take j, t.size ≤ n) (hj : ts[j]? = some t) (ht : t.size ≤ n) : ∀ t ∈ ts.take (j + 1), t.size ≤ n := by
  intro u hu
  rw [List.take_add_one, hj] at hu
  rcases List.mem_append.1 hu with hu | hu
  · exact h u hu
  · simp only [Option.toList_some, List.mem_singleton] at hu
    rw [hu]
    exact ht
set_option maxHeartbeats 4000000 in
set_option maxRecDepth 100000 in
theorem great_any (ms : List (MsgM × Value)) (b n : Nat) (w : World) (hb : b < w.heap.size) (hn : n = ms.length) (hn2 : n ≤ 1000) (hs : ∀ p ∈ ms, Sized w p)
    (h : ∀ k p, ms[k]? = some p → ∀ i, i < 10 → w.cell? ⟨b, k * 10 + i, none⟩ = (p.1.cells p.2)[i]?) :
    Calls Try.prog 7 #[.slice (some ⟨b, 0, none⟩) n n] w (GreatTo ms w) := by
  have HB := Lib.hid hb
  have HN := Lib.hid hn
  have HS := Lib.hid hs
  have H := Lib.hid h
  clear hb hn hs h
  go_enter Try.func7, Try.ntmps7
  go_wp2_with fail
  go_loopw [9] (fun i wr => ∃ k : Nat, k ≤ n ∧ i = .int .i64 k ∧ (∀ j p, j < k → ms[j]? = some p → Fine p.1) ∧ Below w.heap.size w wr) (fun i _ => n - (intOf i).toNat)
  case atStart => exact ⟨0, Nat.zero_le _, rfl, fun _ _ h => absurd h (Nat.not_lt_zero _), Below.refl _ _⟩
  case round =>
    obtain ⟨k, hk, rfl, hfine, hbel⟩ := hrel
    have HF := Lib.hid hfine
    by_cases hlt : k < n
    · obtain ⟨p, hp⟩ : ∃ p, ms[k]? = some p := ⟨_, List.getElem?_eq_getElem (by rw [← HN.out]; exact hlt)⟩
      obtain ⟨⟨m1, m2, m3, m4, m5, m6, m7, m8, m9, m10⟩, va⟩ := p
      have hsz := HS.out _ (List.mem_of_getElem? hp)
      have hst := hsz.strs
      dsimp only at hst
      obtain ⟨ka, kc, hva⟩ := hst.form
      obtain ⟨kl, hkl⟩ : ∃ l, l = m10.length := ⟨_, rfl⟩
      rw [← hkl] at hva
      subst hva
      have key := H.out k _ hp
      have hlow : b < w.heap.size := HB.out
      have f0 : wr.cell? ⟨b, k * 10, none⟩ = some (.int .i64 m1) := (hbel.cell hlow).trans (by simpa [MsgM.cells] using key 0 (by decide))
      have f1 : wr.cell? ⟨b, k * 10 + 1, none⟩ = some (.int .i64 m2) := (hbel.cell hlow).trans (by simpa [MsgM.cells] using key 1 (by decide))
      have f2 : wr.cell? ⟨b, k * 10 + 1 + 1, none⟩ = some (.int .i64 m3) := (hbel.cell hlow).trans (by simpa [MsgM.cells] using key 2 (by decide))
      have f3 : wr.cell? ⟨b, k * 10 + 1 + 1 + 1, none⟩ = some (.int .i64 m4) := (hbel.cell hlow).trans (by simpa [MsgM.cells] using key 3 (by decide))
      have f4 : wr.cell? ⟨b, k * 10 + 1 + 1 + 1 + 1, none⟩ = some (.int .i64 m5) := (hbel.cell hlow).trans (by simpa [MsgM.cells] using key 4 (by decide))
      have f5 : wr.cell? ⟨b, k * 10 + 1 + 1 + 1 + 1 + 1, none⟩ = some (.int .i64 m6) := (hbel.cell hlow).trans (by simpa [MsgM.cells] using key 5 (by decide))
      have f6 : wr.cell? ⟨b, k * 10 + 1 + 1 + 1 + 1 + 1 + 1, none⟩ = some (.string m7) := (hbel.cell hlow).trans (by simpa [MsgM.cells] using key 6 (by decide))
      have f7 : wr.cell? ⟨b, k * 10 + 1 + 1 + 1 + 1 + 1 + 1 + 1, none⟩ = some (.string m8) := (hbel.cell hlow).trans (by simpa [MsgM.cells] using key 7 (by decide))
      have f8 : wr.cell? ⟨b, k * 10 + 1 + 1 + 1 + 1 + 1 + 1 + 1 + 1, none⟩ = some (.string m9) := (hbel.cell hlow).trans (by simpa [MsgM.cells] using key 8 (by decide))
      have f9 : wr.cell? ⟨b, k * 10 + 1 + 1 + 1 + 1 + 1 + 1 + 1 + 1 + 1, none⟩ = some (.slice ka kl kc) := (hbel.cell hlow).trans (by simpa [MsgM.cells] using key 9 (by decide))
      have HP := Lib.hid hp
      have HST := Lib.hid (hst.below hbel (Nat.le_refl _))
      have HBEL := Lib.hid hbel
      have HKL := Lib.hid hkl
      have q7 := hsz.topic
      have q8 := hsz.tag
      have q9 := hsz.body
      have q10 := hsz.many
      have HKS := Lib.hid hsz.keys
      dsimp only at q7 q8 q9 q10
      rw [← hkl] at q10
      unfold maxLen at q7 q8 q9 q10
      clear hfine key hsz hst hp hkl hbel hlow
      by_cases h1 : (2000 : Int) < m9.size
      case pos =>
        go_wp2_with fail
        go_ret
        exact ⟨true, rfl, (by intro h; cases h), below_alloc HBEL.out _⟩
      by_cases h2 : (100 : Int) < m7.size
      case pos =>
        go_wp2_with fail
        go_ret
        exact ⟨true, rfl, (by intro h; cases h), below_alloc HBEL.out _⟩
      by_cases h3 : (100 : Int) < m8.size
      case pos =>
        go_wp2_with fail
        go_ret
        exact ⟨true, rfl, (by intro h; cases h), below_alloc HBEL.out _⟩
      by_cases h4 : (10 : Int) < kl
      case pos =>
        go_wp2_with fail
        go_ret
        exact ⟨true, rfl, (by intro h; cases h), below_alloc HBEL.out _⟩
      go_wp2_with fail
      have HB2 := Lib.hid (below_alloc HBEL.out (.cells #[.int .i64 m1, .int .i64 m2, .int .i64 m3, .int .i64 m4, .int .i64 m5, .int .i64 m6, .string m7, .string m8, .string m9, .slice ka kl kc] 24))
      have HST2 := Lib.hid (HST.out.below ((Below.refl wr.heap.size wr).alloc (Nat.le_refl _) (.cells #[.int .i64 m1, .int .i64 m2, .int .i64 m3, .int .i64 m4, .int .i64 m5, .int .i64 m6, .string m7, .string m8, .string m9, .slice ka kl kc] 24)) (Nat.le_refl _))
      obtain ⟨W2, hW2⟩ : ∃ W, W = wr.alloc (.cells #[.int .i64 m1, .int .i64 m2, .int .i64 m3, .int .i64 m4, .int .i64 m5, .int .i64 m6, .string m7, .string m8, .string m9, .slice ka kl kc] 24) := ⟨_, rfl⟩
      rw [← hW2] at HB2 HST2
      rw [← hW2]
      clear f0 f1 f2 f3 f4 f5 f6 f7 f8 f9 hW2
      go_loopw [38] (fun i wi => ∃ j : Nat, j ≤ kl ∧ i = .int .i64 j ∧ Hid (∀ t ∈ m10.take j, t.size ≤ 100) ∧ ∃ d, wi = W2.drewN d) (fun i _ => kl - (intOf i).toNat)
      case atStart => exact ⟨0, Nat.zero_le _, rfl, Lib.hid (by intro t ht; simp at ht), 0, rfl⟩
      case round =>
        obtain ⟨j, hj, rfl, HJ, d, rfl⟩ := hrel
        by_cases hjl : j < kl
        · have hjm : j < m10.length := by rw [← HKL.out]; exact hjl
          obtain ⟨c, o, rfl, hcell⟩ := HST2.out.cellAt hjm
          obtain ⟨t, ht⟩ : ∃ t, t = m10.getD j ⟨#[]⟩ := ⟨_, rfl⟩
          rw [← ht] at hcell
          have htm : m10[j]? = some t := by rw [ht, List.getD_eq_getElem?_getD, List.getElem?_eq_getElem hjm]; rfl
          have hts := HKS.out t (List.mem_of_getElem? htm)
          unfold maxLen at hts
          have HT := Lib.hid htm
          clear ht htm
          by_cases h5 : (100 : Int) < t.size
          · go_wp2_with fail
            go_ret
            exact ⟨true, rfl, (by intro h; cases h), below_drewN HB2.out _⟩
          · go_wp2_with fail
            exact ⟨⟨j + 1, by omega, by go_num, Lib.hid (take_more HJ.out HT.out (by omega)), _, rfl⟩, by simp [intOf]; omega⟩
        · obtain rfl : j = kl := by omega
          have hall : ∀ t ∈ m10, t.size ≤ 100 := by
            have := HJ.out
            rwa [HKL.out, List.take_length] at this
          have HFN : Hid (Fine ⟨m1, m2, m3, m4, m5, m6, m7, m8, m9, m10⟩) := Lib.hid ⟨by dsimp only; omega, by dsimp only; omega, by dsimp only; omega, by have := HKL.out; dsimp only; omega, hall⟩
          clear hall
          go_wp2_with fail
          refine ⟨⟨k + 1, by omega, by go_num, ?_, below_drewN HB2.out _⟩, by simp [intOf]; omega⟩
          intro j p hj hp
          by_cases e : j < k
          · exact HF.out j p e hp
          · obtain rfl : j = k := by omega
            rw [HP.out] at hp
            cases hp
            exact HFN.out
    · obtain rfl : k = n := by omega
      have HALL : Hid (∀ p ∈ ms, Fine p.1) := Lib.hid fun p hp => by
        obtain ⟨j, hj, e⟩ := List.getElem_of_mem hp
        exact HF.out j p (by rw [HN.out]; exact hj) (by rw [← e]; exact List.getElem?_eq_getElem hj)
      clear hfine
      go_wp2_with fail
      go_ret
      exact ⟨false, rfl, fun _ => HALL.out, hbel⟩
end Go.Proofs.Ytmekmcgdjlmmcaa

