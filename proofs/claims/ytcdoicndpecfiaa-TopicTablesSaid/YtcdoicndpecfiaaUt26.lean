/-
  Part 26: what the statement needs of these texts: URef, UQue.
-/
import Derived.BigQuiet
import Derived.Deep.AppendLies
import Derived.Deep.AppendSrc
import Derived.Deep.DeepCutAuto
import Derived.Deep.DeepMust
import Derived.Deep.OwnRows
import Derived.Deep.QuietTactic
import Derived.Deep.RegionHeld3
import Derived.Deep.RegionLaw
import Derived.IntWalk
import Derived.Laws.BitsAllLaws
import Derived.Laws.CopyOwn
import Derived.Laws.OwnMore
import Derived.Laws.PanicsMore
import Derived.Laws.Rows
import Derived.Laws.StructEq
import Derived.Lib.AppendZerosOnto
import Derived.Lib.BufferRead
import Derived.Lib.BufferWrite
import Derived.Lib.Hide
import Derived.Lib.OthersKept
import Derived.Maps.AppendAt
import Derived.Maps.OwnSet
import Derived.Maps.RangeWalk
import Derived.Orders
import Derived.ProofKit
import Derived.Shelf.Slices.In.SortNone
import Derived.Shelf.Sort.Plain
import Derived.Shelf.Strings.Prefix
import Derived.Sort.OwnSorted
import Derived.StillTailTactics
import Derived.StringKeys
import Derived.Test.YtcdoicndpecfiaaProg
import Derived.Test.YtcdoicndpecfiaaRows
import Derived.WalkKit
import Derived.WalkLawsBesides
import Derived.WalkSmall
import Derived.WalkSpells
import Derived.Test.YtcdoicndpecfiaaUt1
import Derived.Test.YtcdoicndpecfiaaUt2
import Derived.Test.YtcdoicndpecfiaaUt3
import Derived.Test.YtcdoicndpecfiaaUt4
import Derived.Test.YtcdoicndpecfiaaUt5
import Derived.Test.YtcdoicndpecfiaaUt7
import Derived.Test.YtcdoicndpecfiaaUt8
import Derived.Test.YtcdoicndpecfiaaUt9
import Derived.Test.YtcdoicndpecfiaaUt10
import Derived.Test.YtcdoicndpecfiaaUt11
import Derived.Test.YtcdoicndpecfiaaUt12
import Derived.Test.YtcdoicndpecfiaaUt13
import Derived.Test.YtcdoicndpecfiaaUt14
import Derived.Test.YtcdoicndpecfiaaUt15
import Derived.Test.YtcdoicndpecfiaaUt16
import Derived.Test.YtcdoicndpecfiaaUt17
import Derived.Test.YtcdoicndpecfiaaUt18
import Derived.Test.YtcdoicndpecfiaaUt19
import Derived.Test.YtcdoicndpecfiaaUt20
import Derived.Test.YtcdoicndpecfiaaUt21
import Derived.Test.YtcdoicndpecfiaaUt22
import Derived.Test.YtcdoicndpecfiaaUt23
import Derived.Test.YtcdoicndpecfiaaUt24
import Derived.Test.YtcdoicndpecfiaaUt25
namespace Go.Proofs.Ytcdoicndpecfiaa
open Go.RowKit Go.Deep
set_option linter.unusedVariables false
set_option linter.unusedSimpArgs false

/-- A table's topics, as its block tells them. -/
structure THead (w : World) (tb : Nat) (v : Value) (l : TL) : Prop where
  cell : w.cell? ⟨tb, 1, none⟩ = some v
  row : TRow w v l
theorem THead.new {w w' : World} {tb : Nat} {v : Value} {l : TL} (h : THead w tb v l) (hb : Below w.heap.size w w') : THead w' tb v l := ⟨ukeep hb h.cell, h.row.new hb⟩

theorem place_any {tb : Nat} {v : Value} {l : TL} (s : ByteArray) {w : World} (h : THead w tb v l) (hl : l.length ≤ 1000) :
    Calls Try.prog 29 #[.pointer (some ⟨tb, 0, none⟩), .string s] w fun e w' => e = .returned (.int .i64 (placeI l s)) ∧ Below w.heap.size w w' := by
  have hb : Below w.heap.size w (w.alloc (.cells #[.string s] 9)) := (Below.refl _ _).alloc (Nat.le_refl _) _
  have h2 := h.new hb
  have hc := h2.cell
  have HI := Lib.hid (index_any v l s w.heap.size (w.alloc (.cells #[.string s] 9)) h2.row hl (by simp [go_sem]))
  have HB := Lib.hid hb
  obtain ⟨r, hr⟩ : ∃ r, r = placeI l s := ⟨_, rfl⟩
  rw [← hr] at HI ⊢
  clear h h2 hb hr
  go_enter Try.func29, Try.ntmps29
  go_wp2_with fail
  refine HI.out.mono ?_
  rintro e w2 ⟨rfl, hb2⟩
  have HB2 := Lib.hid (ubelow_on hb2 HB.out (Nat.le_refl _))
  clear hb2
  go_wp2_with fail
  go_ret
  exact ⟨rfl, HB2.out⟩

/-- What speaks against one more topic. -/
def refE (l : TL) (nm : ByteArray) (q : Int) : Int := if plainB nm = true then (if q < 1 ∨ 3 < q then 1 else if 0 ≤ placeI l nm then 10 else if 6 ≤ l.length then 6 else 0) else 11
set_option maxHeartbeats 2000000 in
theorem refuses_any {tb : Nat} {v : Value} {l : TL} (nm : ByteArray) (q : Int) {w : World} (h : THead w tb v l) (hl : l.length ≤ 1000) (hm : nm.size ≤ maxLen) :
    Calls Try.prog 23 #[.pointer (some ⟨tb, 0, none⟩), .agg #[.string nm, .int .i64 q]] w fun e w' => e = .returned (.int .i64 (refE l nm q)) ∧ Below w.heap.size w w' := by
  obtain ⟨w1, hw1⟩ : ∃ w1, w1 = w.alloc (.cells #[.string nm, .int .i64 q] 31) := ⟨_, rfl⟩
  have hb : Below w.heap.size w w1 := hw1 ▸ (Below.refl _ _).alloc (Nat.le_refl _) _
  have c0 : w1.cell? ⟨w.heap.size, 0, none⟩ = some (.string nm) := by rw [hw1]; simp [go_sem]
  have c1 : w1.cell? ⟨w.heap.size, 1, none⟩ = some (.int .i64 q) := by rw [hw1]; simp [go_sem]
  have h2 := h.new hb
  have HPL : Hid (∀ W, Calls Try.prog 56 #[.string nm] W fun e w' => e = .returned (.bool (plainB nm)) ∧ Below W.heap.size W w') := Lib.hid (fun W => plain_any nm W hm)
  have HPC : Hid (∀ W, Below w1.heap.size w1 W → Calls Try.prog 29 #[.pointer (some ⟨tb, 0, none⟩), .string nm] W fun e w' => e = .returned (.int .i64 (placeI l nm)) ∧ Below W.heap.size W w') := Lib.hid (fun W hW => place_any nm (h2.new hW) hl)
  have HK : Hid (∀ W, Below w1.heap.size w1 W → W.cell? ⟨w.heap.size, 0, none⟩ = some (.string nm) ∧ W.cell? ⟨w.heap.size, 1, none⟩ = some (.int .i64 q) ∧ W.cell? ⟨tb, 1, none⟩ = some v) := Lib.hid (fun W hW => ⟨ukeep hW c0, ukeep hW c1, ukeep hW h2.cell⟩)
  obtain ⟨a, cap, rfl⟩ := h.row.len
  obtain ⟨n, hn⟩ : ∃ n, n = l.length := ⟨_, rfl⟩
  have hE : refE l nm q = if plainB nm = true then (if q < 1 ∨ 3 < q then 1 else if 0 ≤ placeI l nm then 10 else if 6 ≤ n then 6 else 0) else 11 := by rw [hn]; rfl
  rw [hE]
  rw [← hn] at HK
  obtain ⟨pb, hpb⟩ : ∃ pb, pb = plainB nm := ⟨_, rfl⟩
  obtain ⟨pi, hpi⟩ : ∃ pi, pi = placeI l nm := ⟨_, rfl⟩
  rw [← hpb] at HPL ⊢
  rw [← hpi] at HPC ⊢
  have HB := Lib.hid hb
  have HW1 := Lib.hid hw1
  clear hE hpb hpi hn hb h2 h hw1 hl
  cases pb with
  | false =>
    rw [if_neg (by simp)]
    go_enter Try.func23, Try.ntmps23
    go_upto_region 1 with fail
    rw [← HW1.out]
    go_wp2_with fail
    refine (HPL.out _).mono ?_
    rintro e w2 ⟨rfl, hb2⟩
    have HB2 := Lib.hid (ubelow_on hb2 HB.out (Nat.le_refl _))
    clear hb2
    go_wp2_with fail
    go_ret
    exact ⟨rfl, HB2.out⟩
  | true =>
    rw [if_pos rfl]
    by_cases hq : q < 1 ∨ 3 < q
    · rw [if_pos hq]
      rcases hq with hq | hq
      all_goals
        go_enter Try.func23, Try.ntmps23
        go_upto_region 1 with fail
        rw [← HW1.out]
        go_wp2_with fail
        refine (HPL.out _).mono ?_
        rintro e w2 ⟨rfl, hb2⟩
        obtain ⟨k0, k1, k2⟩ := HK.out w2 hb2
        have HB2 := Lib.hid (ubelow_on hb2 HB.out (Nat.le_refl _))
        clear hb2
        go_wp2_with fail
        go_ret
        exact ⟨rfl, HB2.out⟩
    · rw [if_neg hq]
      have hq1 : ¬ q < 1 := fun h => hq (.inl h)
      have hq3 : ¬ 3 < q := fun h => hq (.inr h)
      clear hq
      have head : ∀ (G : Int → Prop), True := fun _ => trivial
      clear head
      by_cases hp : 0 ≤ pi
      · rw [if_pos hp]
        go_enter Try.func23, Try.ntmps23
        go_upto_region 1 with fail
        rw [← HW1.out]
        go_wp2_with fail
        refine (HPL.out _).mono ?_
        rintro e w2 ⟨rfl, hb2⟩
        obtain ⟨k0, k1, k2⟩ := HK.out w2 hb2
        have HB2 := Lib.hid hb2
        clear hb2
        go_wp2_with fail
        refine (HPC.out _ HB2.out).mono ?_
        rintro e w3 ⟨rfl, hb3⟩
        have HB3 := Lib.hid (ubelow_on hb3 (ubelow_on HB2.out HB.out (Nat.le_refl _)) (Nat.le_refl _))
        clear hb3
        go_wp2_with fail
        go_ret
        exact ⟨rfl, HB3.out⟩
      · rw [if_neg hp]
        by_cases h6 : 6 ≤ n
        · rw [if_pos h6]
          have h6' : (6 : Int) ≤ (n : Int) := by omega
          clear h6
          go_enter Try.func23, Try.ntmps23
          go_upto_region 1 with fail
          rw [← HW1.out]
          go_wp2_with fail
          refine (HPL.out _).mono ?_
          rintro e w2 ⟨rfl, hb2⟩
          obtain ⟨k0, k1, k2⟩ := HK.out w2 hb2
          have HB2 := Lib.hid hb2
          clear hb2
          go_wp2_with fail
          refine (HPC.out _ HB2.out).mono ?_
          rintro e w3 ⟨rfl, hb3⟩
          obtain ⟨j0, j1, j2⟩ := HK.out w3 (HB2.out.trans (hb3.mono HB2.out.size))
          have HB3 := Lib.hid (ubelow_on hb3 (ubelow_on HB2.out HB.out (Nat.le_refl _)) (Nat.le_refl _))
          clear hb3
          go_wp2_with fail
          go_ret
          exact ⟨rfl, HB3.out⟩
        · rw [if_neg h6]
          have h6' : ¬ (6 : Int) ≤ (n : Int) := by omega
          clear h6
          go_enter Try.func23, Try.ntmps23
          go_upto_region 1 with fail
          rw [← HW1.out]
          go_wp2_with fail
          refine (HPL.out _).mono ?_
          rintro e w2 ⟨rfl, hb2⟩
          obtain ⟨k0, k1, k2⟩ := HK.out w2 hb2
          have HB2 := Lib.hid hb2
          clear hb2
          go_wp2_with fail
          refine (HPC.out _ HB2.out).mono ?_
          rintro e w3 ⟨rfl, hb3⟩
          obtain ⟨j0, j1, j2⟩ := HK.out w3 (HB2.out.trans (hb3.mono HB2.out.size))
          have HB3 := Lib.hid (ubelow_on hb3 (ubelow_on HB2.out HB.out (Nat.le_refl _)) (Nat.le_refl _))
          clear hb3
          go_wp2_with fail
          go_ret
          exact ⟨rfl, HB3.out⟩
end Go.Proofs.Ytcdoicndpecfiaa

namespace Go.Proofs.Ytcdoicndpecfiaa
open Go.RowKit Go.Deep
set_option linter.unusedVariables false
set_option linter.unusedSimpArgs false

/-- How many queues a topic has. -/
def queI (l : TL) (s : ByteArray) : Int := if isOwn s = true then 1 else match placeI l s with
  | .ofNat j => (match l[j]? with | some x => x.2 | none => 0)
  | _ => 0
def chkE (l : TL) (s : ByteArray) (q : Int) : Int := if queI l s = 0 then 12 else if q < 0 ∨ queI l s ≤ q then 13 else 0
set_option maxHeartbeats 1000000 in
theorem queues_any {tb : Nat} {v : Value} {l : TL} (s : ByteArray) {w : World} (h : THead w tb v l) (hl : l.length ≤ 1000) (hm : s.size ≤ maxLen) :
    Calls Try.prog 13 #[.pointer (some ⟨tb, 0, none⟩), .string s] w fun e w' => e = .returned (.int .i64 (queI l s)) ∧ Below w.heap.size w w' := by
  have HO := Lib.hid (of_any s w hm)
  have HP : Hid (∀ W, Below w.heap.size w W → Calls Try.prog 29 #[.pointer (some ⟨tb, 0, none⟩), .string s] W fun e w' => e = .returned (.int .i64 (placeI l s)) ∧ Below W.heap.size W w') := Lib.hid (fun W hW => place_any s (h.new hW) hl)
  have HH : Hid (∀ W, Below w.heap.size w W → THead W tb v l) := Lib.hid (fun W hW => h.new hW)
  have hq : queI l s = if isOwn s = true then 1 else match placeI l s with
    | .ofNat j => (match l[j]? with | some x => x.2 | none => 0)
    | _ => 0 := rfl
  have hsp := placeI_spec l s
  obtain ⟨ob, hob⟩ : ∃ ob, ob = isOwn s := ⟨_, rfl⟩
  obtain ⟨os, hos⟩ : ∃ os, os = ofB s := ⟨_, rfl⟩
  obtain ⟨r, hr⟩ : ∃ r, r = queI l s := ⟨_, rfl⟩
  rw [← hob] at HO hq
  rw [← hos] at HO
  rw [← hr] at hq ⊢
  clear h hob hos hr
  cases ob with
  | true =>
    rw [if_pos rfl] at hq
    subst hq
    clear hsp
    go_enter Try.func13, Try.ntmps13
    go_wp2_with fail
    refine HO.out.mono ?_
    rintro e w2 ⟨rfl, hb2⟩
    have HB2 := Lib.hid hb2
    clear hb2
    go_wp2_with fail
    go_ret
    exact ⟨rfl, HB2.out⟩
  | false =>
    rw [if_neg (by simp)] at hq
    rcases hsp with ⟨h1, _⟩ | ⟨j, x, h1, h2, _⟩
    · rw [h1] at HP hq
      have hq0 : r = 0 := hq
      subst hq0
      clear hq h1
      go_enter Try.func13, Try.ntmps13
      go_wp2_with fail
      refine HO.out.mono ?_
      rintro e w2 ⟨rfl, hb2⟩
      have HB2 := Lib.hid hb2
      clear hb2
      go_wp2_with fail
      refine (HP.out _ HB2.out).mono ?_
      rintro e w3 ⟨rfl, hb3⟩
      have HB3 := Lib.hid (ubelow_on hb3 HB2.out (Nat.le_refl _))
      clear hb3
      go_wp2_with fail
      go_ret
      exact ⟨rfl, HB3.out⟩
    · rw [h1] at HP hq
      have hq0 : r = x.2 := by
        have e : (match ((j : Nat) : Int) with
          | .ofNat j => (match l[j]? with | some x => x.2 | none => 0)
          | _ => 0) = x.2 := by
          show (match l[j]? with | some x => x.2 | none => 0) = x.2
          rw [h2]
        exact hq.trans e
      have hjl : j < l.length := (List.getElem?_eq_some_iff.1 h2).1
      have HX := Lib.hid h2
      obtain ⟨n, hn⟩ : ∃ n, n = l.length := ⟨_, rfl⟩
      rw [← hn] at hjl
      have HN := Lib.hid hn
      clear hq h1 h2 hn hl
      rw [hq0]
      clear hq0
      obtain ⟨x1, x2⟩ := x
      simp only
      go_enter Try.func13, Try.ntmps13
      go_wp2_with fail
      refine HO.out.mono ?_
      rintro e w2 ⟨rfl, hb2⟩
      have HB2 := Lib.hid hb2
      clear hb2
      go_wp2_with fail
      refine (HP.out _ HB2.out).mono ?_
      rintro e w3 ⟨rfl, hb3⟩
      have HB3 := Lib.hid (ubelow_on hb3 HB2.out (Nat.le_refl _))
      clear hb3
      have hh := HH.out w3 HB3.out
      have hc := hh.cell
      obtain ⟨g, cap, e, c1⟩ : ∃ g cap, v = .slice (some ⟨g, 0, none⟩) n cap ∧ w3.cell? ⟨g, j * 2 + 1, none⟩ = some (.int .i64 x2) := by
        rcases hh.row.form with ⟨_, e⟩ | ⟨g, c, e, _, _, _, hcc⟩
        · have := HX.out
          rw [e] at this; cases this
        · exact ⟨g, c, by rw [HN.out]; exact e, (hcc j _ HX.out).2⟩
      subst e
      clear hh
      go_wp2_with fail
      go_ret
      exact ⟨rfl, HB3.out⟩
set_option maxHeartbeats 1000000 in
theorem check_any {tb : Nat} {v : Value} {l : TL} (s : ByteArray) (q : Int) {w : World} (h : THead w tb v l) (hl : l.length ≤ 1000) (hm : s.size ≤ maxLen) :
    Calls Try.prog 14 #[.pointer (some ⟨tb, 0, none⟩), .string s, .int .i64 q] w fun e w' => e = .returned (.int .i64 (chkE l s q)) ∧ Below w.heap.size w w' := by
  have HQ := Lib.hid (queues_any s h hl hm)
  have hE : chkE l s q = if queI l s = 0 then 12 else if q < 0 ∨ queI l s ≤ q then 13 else 0 := rfl
  rw [hE]
  obtain ⟨r, hr⟩ : ∃ r, r = queI l s := ⟨_, rfl⟩
  rw [← hr] at HQ ⊢
  clear h hE hr
  by_cases h0 : r = 0
  · subst h0
    rw [if_pos rfl]
    go_enter Try.func14, Try.ntmps14
    go_wp2_with fail
    refine HQ.out.mono ?_
    rintro e w2 ⟨rfl, hb2⟩
    have HB2 := Lib.hid hb2
    clear hb2
    go_wp2_with fail
    go_ret
    exact ⟨rfl, HB2.out⟩
  · have h0' : (r == 0) = false := by simpa using h0
    rw [if_neg h0]
    clear h0
    by_cases hq : q < 0
    · rw [if_pos (.inl hq)]
      go_enter Try.func14, Try.ntmps14
      go_wp2_with fail
      refine HQ.out.mono ?_
      rintro e w2 ⟨rfl, hb2⟩
      have HB2 := Lib.hid hb2
      clear hb2
      go_wp2_with fail
      go_ret
      exact ⟨rfl, HB2.out⟩
    · by_cases hq2 : r ≤ q
      · rw [if_pos (.inr hq2)]
        have hd : decide (r ≤ q) = true := decide_eq_true hq2
        clear hq2
        go_enter Try.func14, Try.ntmps14
        go_wp2_with fail
        refine HQ.out.mono ?_
        rintro e w2 ⟨rfl, hb2⟩
        have HB2 := Lib.hid hb2
        clear hb2
        go_wp2_with fail
        go_ret
        exact ⟨rfl, HB2.out⟩
      · rw [if_neg (fun h => h.elim hq hq2)]
        have hd : decide (r ≤ q) = false := decide_eq_false hq2
        clear hq2
        go_enter Try.func14, Try.ntmps14
        go_wp2_with fail
        refine HQ.out.mono ?_
        rintro e w2 ⟨rfl, hb2⟩
        have HB2 := Lib.hid hb2
        clear hb2
        go_wp2_with fail
        go_ret
        exact ⟨rfl, HB2.out⟩

end Go.Proofs.Ytcdoicndpecfiaa

