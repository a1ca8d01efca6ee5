/-
  NameOwn, walked: true for every input; only new memory is written.
-/
import Derived.Test.YtkkcnkfglkhhoaaWTells
namespace Go.Proofs.Ytkkcnkfglkhhoaa
open Go.RowKit Go.Deep

set_option maxRecDepth 100000 in
set_option maxHeartbeats 4000000 in
theorem walk_NameOwn (a b : ByteArray) (w : World) (ha : a.size ≤ maxLen) (hb : b.size ≤ maxLen) :
    Calls Try.prog 5 #[.string a, .string b] w fun e w' => e = .returned (.bool true) ∧ Below w.heap.size w w' := by
  by_cases h1 : 100 < a.size
  · go_enter Try.func5, Try.ntmps5
    go_wp2_with fail
    refine (awake_any _).mono ?_
    rintro e w1 ⟨rfl, hb⟩
    have HB := Lib.hid hb
    clear hb
    go_wp2_with fail
    go_ret
    exact ⟨rfl, HB.out⟩
  · by_cases h2 : 100 < b.size
    · go_enter Try.func5, Try.ntmps5
      go_wp2_with fail
      refine (awake_any _).mono ?_
      rintro e w1 ⟨rfl, hb⟩
      have HB := Lib.hid hb
      clear hb
      go_wp2_with fail
      go_ret
      exact ⟨rfl, HB.out⟩
    · cases hga : groupB a
      · have HGA := Lib.hid hga
        clear hga
        go_enter Try.func5, Try.ntmps5
        go_wp2_with fail
        refine (awake_any _).mono ?_
        rintro e w1 ⟨rfl, hb⟩
        have HB := Lib.hid hb
        clear hb
        go_wp2_with fail
        refine (group_any a _ ha).mono ?_
        rintro e w1 ⟨rfl, hb⟩
        have HB := Lib.hid (HB.out.trans (hb.mono HB.out.size))
        clear hb
        rw [HGA.out]
        go_wp2_with fail
        go_ret
        exact ⟨rfl, HB.out⟩
      · cases hgb : groupB b
        · have HGA := Lib.hid hga
          have HGB := Lib.hid hgb
          clear hga hgb
          go_enter Try.func5, Try.ntmps5
          go_wp2_with fail
          refine (awake_any _).mono ?_
          rintro e w1 ⟨rfl, hb⟩
          have HB := Lib.hid hb
          clear hb
          go_wp2_with fail
          refine (group_any a _ ha).mono ?_
          rintro e w1 ⟨rfl, hb⟩
          have HB := Lib.hid (HB.out.trans (hb.mono HB.out.size))
          clear hb
          rw [HGA.out]
          go_wp2_with fail
          refine (group_any b _ (by assumption)).mono ?_
          rintro e w1 ⟨rfl, hb⟩
          have HB := Lib.hid (HB.out.trans (hb.mono HB.out.size))
          clear hb
          rw [HGB.out]
          go_wp2_with fail
          go_ret
          exact ⟨rfl, HB.out⟩
        · have h8a := (group_some hga).2
          have h8b := (group_some hgb).2
          have hrm : (retryH ++ a).size ≤ maxLen := by rw [ByteArray.size_append]; unfold maxLen; change 7 + a.size ≤ _; omega
          have hdm : (deadH ++ a).size ≤ maxLen := by rw [ByteArray.size_append]; unfold maxLen; change 6 + a.size ≤ _; omega
          obtain ⟨ra, era⟩ : ∃ x, retryH ++ a = x := ⟨_, rfl⟩
          obtain ⟨da, eda⟩ : ∃ x, deadH ++ a = x := ⟨_, rfl⟩
          obtain ⟨rb, erb⟩ : ∃ x, retryH ++ b = x := ⟨_, rfl⟩
          obtain ⟨db, edb⟩ : ∃ x, deadH ++ b = x := ⟨_, rfl⟩
          have q1 : plainB ra = false := by rw [← era]; exact retry_plain a
          have q2 : plainB da = false := by rw [← eda]; exact dead_plain a
          have q3 : (ra.toList == da.toList) = false := by rw [← era, ← eda]; exact retry_ne_dead a a
          have q4 : (ra.toList == db.toList) = false := by rw [← era, ← edb]; exact retry_ne_dead a b
          have q5 : (ra.toList == rb.toList) = (a.toList == b.toList) := by rw [← era, ← erb]; exact app_eq _ a b
          have q6 : (da.toList == db.toList) = (a.toList == b.toList) := by rw [← eda, ← edb]; exact app_eq _ a b
          have q7 := group_plain hga
          rw [era] at hrm
          rw [eda] at hdm
          have HGA := Lib.hid hga
          have HGB := Lib.hid hgb
          have HRA : Hid ((if true then retryH ++ a else ⟨#[]⟩) = ra) := Lib.hid era
          have HDA : Hid ((if true then deadH ++ a else ⟨#[]⟩) = da) := Lib.hid eda
          have HRB : Hid ((if true then retryH ++ b else ⟨#[]⟩) = rb) := Lib.hid erb
          have HDB : Hid ((if true then deadH ++ b else ⟨#[]⟩) = db) := Lib.hid edb
          have Q1 := Lib.hid q1
          have Q2 := Lib.hid q2
          have Q3 := Lib.hid q3
          have Q4 := Lib.hid q4
          have Q5 := Lib.hid q5
          have Q6 := Lib.hid q6
          have Q7 := Lib.hid q7
          clear hga hgb era eda erb edb q1 q2 q3 q4 q5 q6 q7
          go_enter Try.func5, Try.ntmps5
          go_wp2_with fail
          refine (awake_any _).mono ?_
          rintro e w1 ⟨rfl, hb⟩
          have HB := Lib.hid hb
          clear hb
          go_wp2_with fail
          refine (group_any a _ ha).mono ?_
          rintro e w1 ⟨rfl, hb⟩
          have HB := Lib.hid (HB.out.trans (hb.mono HB.out.size))
          clear hb
          rw [HGA.out]
          go_wp2_with fail
          refine (group_any b _ (by assumption)).mono ?_
          rintro e w1 ⟨rfl, hb⟩
          have HB := Lib.hid (HB.out.trans (hb.mono HB.out.size))
          clear hb
          rw [HGB.out]
          go_wp2_with fail
          refine (retry_any a ra true _ ha HGA.out HRA.out).mono ?_
          rintro e w1 ⟨rfl, hb⟩
          have HB := Lib.hid (HB.out.trans (hb.mono HB.out.size))
          clear hb
          go_wp2_with fail
          refine (dead_any a da true _ ha HGA.out HDA.out).mono ?_
          rintro e w1 ⟨rfl, hb⟩
          have HB := Lib.hid (HB.out.trans (hb.mono HB.out.size))
          clear hb
          go_wp2_with fail
          refine (plain_any ra _ hrm).mono ?_
          rintro e w1 ⟨rfl, hb⟩
          have HB := Lib.hid (HB.out.trans (hb.mono HB.out.size))
          clear hb
          rw [Q1.out]
          go_wp2_with fail
          refine (plain_any da _ hdm).mono ?_
          rintro e w1 ⟨rfl, hb⟩
          have HB := Lib.hid (HB.out.trans (hb.mono HB.out.size))
          clear hb
          rw [Q2.out]
          have q3 := Q3.out
          have q4 := Q4.out
          go_wp2_with fail
          refine (dead_any b db true _ (by assumption) HGB.out HDB.out).mono ?_
          rintro e w1 ⟨rfl, hb⟩
          have HB := Lib.hid (HB.out.trans (hb.mono HB.out.size))
          clear hb
          go_wp2_with fail
          refine (retry_any b rb true _ (by assumption) HGB.out HRB.out).mono ?_
          rintro e w1 ⟨rfl, hb⟩
          have HB := Lib.hid (HB.out.trans (hb.mono HB.out.size))
          clear hb q3 q4
          have q5 := Q5.out
          have q6 := Q6.out
          go_wp2_with fail
          refine (dead_any b db true _ (by assumption) HGB.out HDB.out).mono ?_
          rintro e w1 ⟨rfl, hb⟩
          have HB := Lib.hid (HB.out.trans (hb.mono HB.out.size))
          clear hb
          go_wp2_with fail
          refine (plain_any a _ ha).mono ?_
          rintro e w1 ⟨rfl, hb⟩
          have HB := Lib.hid (HB.out.trans (hb.mono HB.out.size))
          clear hb
          rw [Q7.out]
          go_wp2_with fail
          go_ret
          exact ⟨rfl, HB.out⟩
end Go.Proofs.Ytkkcnkfglkhhoaa
