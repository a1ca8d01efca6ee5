/- A part. -/
import Derived.Test.YtkbgococmkcjaaaWsl17
import Derived.Test.YtkbgococmkcjaaaWsl20
set_option linter.unusedVariables false
set_option linter.unusedSimpArgs false
namespace Go.Proofs.Ytkbgococmkcjaaa
open Go.RowKit Go.Deep
attribute [local go_sem] fr_opt
def wZero : List Nat := List.replicate 16 0
def WNewOk (w0 w : World) (g : Gh) (st : St) (n : Nat) (hand : Int) (e : Ending) (w' : World) : Prop :=
  ∃ wb g', e = .returned (.tuple #[.pointer (some ⟨wb, 0, none⟩), .int .i64 0]) ∧ w.heap.size ≤ wb ∧ WhI w0 w' wb g' (wBegS st (wNames wH st)) (n + 2) hand wZero ∧ Gh.To w g g' w'
theorem wnew_ease {w0 w : World} {g : Gh} {st : St} {n : Nat} {hand : Int} (hd : DiskAt w g st) (hc : Chg (fun _ => False) w0 w) (hlow : ∀ k ∈ g.fp, w0.heap.size ≤ k) (h : Ease n st) (hn : n ≤ 900000) (hr : 96 ≤ (st.cap : Int) - st.size) (hm : ∀ p ∈ st.fs, p.1.size ≤ maxLen) (h0 : 0 ≤ hand) (h1 : hand ≤ 1099511627776) :
    Calls Try.prog 10 #[.pointer (some ⟨g.d, 0, none⟩), .int .i64 hand] w (WNewOk w0 w g st n hand) := by
  refine (wnew_any g st n hand w hd h.good hn hm h0 h1).mono ?_
  rintro e w' ⟨g', hd', ht, _, hok⟩
  obtain ⟨m1, m2, m3⟩ := wmade h hr
  obtain ⟨wb, he, hw, hout, hcell⟩ := hok m1
  have hz := hc.size
  refine ⟨wb, g', he, hw, ⟨hd', hc.trans ht.chg (fun i hi hx => by have := hlow i hx; omega), fun k hk => ?_, m2, by rw [ht.d]; exact hcell, by omega, hout, m3.find, rfl, fun x hx => ?_⟩, ht⟩
  · rcases ht.fp k hk with a | a
    · exact hlow k a
    · omega
  · rw [List.eq_of_mem_replicate hx]; decide
theorem wnew_first {w0 w w' : World} (hc : Chg (fun _ => False) w0 w) (hand : Int) (hd : DiskAt w' ⟨w.heap.size, none, []⟩ (newSt 1000)) (hb : Below w.heap.size w w') (h0 : 0 ≤ hand) (h1 : hand ≤ 1099511627776) :
    Calls Try.prog 10 #[.pointer (some ⟨w.heap.size, 0, none⟩), .int .i64 hand] w' (WNewOk w0 w' ⟨w.heap.size, none, []⟩ (newSt 1000) 0 hand) :=
  wnew_ease (g := ⟨w.heap.size, none, []⟩) hd (hc.trans (Chg.of_below hb : Chg (fun _ => False) w w') (fun _ _ x => x)) (fun q hq => by simp [Gh.fp] at hq; rw [hq]; exact hc.size) (Ease.new 1000) (by decide) (by decide) (fun p hp => by cases hp) h0 h1
set_option maxHeartbeats 2000000 in
set_option maxRecDepth 100000 in
theorem wawake_any (w : World) : Calls Try.prog 7 #[] w fun e w' => e = .returned (.bool true) ∧ Below w.heap.size w w' := by
  have HN := Lib.hid (new_any 1000 w)
  go_enter Try.func7, Try.ntmps7
  go_wp2_with fail
  refine HN.out.mono ?_
  rintro e w1 ⟨rfl, hd1, hb1⟩
  have HQ := Lib.hid (wnew_first (Chg.refl _ w) 5 hd1 hb1 (by decide) (by decide))
  clear hd1 hb1
  go_wp2_with fail
  refine HQ.out.mono ?_
  rintro e w2 ⟨wb, g, rfl, _, h2, _⟩
  have HA := Lib.hid (turn_on h2 7 (by decide) (by decide) (by decide))
  clear h2
  go_wp2_with fail
  refine HA.out.mono ?_
  rintro e w3 ⟨rfl, h3, _⟩
  have HB := Lib.hid (turn_on h3 7 (by decide) (by decide) (by decide))
  clear h3
  go_wp2_with fail
  refine HB.out.mono ?_
  rintro e w4 ⟨rfl, h4, _⟩
  have HC := Lib.hid (turn_off h4 7 (by decide))
  have HD := Lib.hid (hand_any h4)
  have HE := Lib.hid h4.below
  clear h4
  go_wp2_with fail
  refine HC.out.mono ?_
  rintro e w5 ⟨rfl, rfl⟩
  go_wp2_with fail
  refine HD.out.mono ?_
  rintro e w5 ⟨rfl, rfl⟩
  go_wp2_with fail
  go_ret
  exact ⟨rfl, HE.out⟩
end Go.Proofs.Ytkbgococmkcjaaa
namespace Go.Proofs.Ytkbgococmkcjaaa
open Go.RowKit Go.Deep
attribute [local go_sem] fr_opt
end Go.Proofs.Ytkbgococmkcjaaa
namespace Go.Proofs.Ytkbgococmkcjaaa
open Go.RowKit Go.Deep
attribute [local go_sem] fr_opt
end Go.Proofs.Ytkbgococmkcjaaa
