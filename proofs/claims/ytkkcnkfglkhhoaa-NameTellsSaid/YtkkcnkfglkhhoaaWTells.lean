/-
  The document's example, and NameTells, walked: true for every input; only new memory is written.
-/
import Derived.Test.YtkkcnkfglkhhoaaNamM
namespace Go.Proofs.Ytkkcnkfglkhhoaa
open Go.RowKit Go.Deep

theorem ex_topic : topicB ⟨#[37, 114, 101, 116, 114, 121, 37, 103]⟩ = true := by rw [← app_g]; exact retry_topic g_is_group
theorem ex_plain : plainB ⟨#[37, 114, 101, 116, 114, 121, 37, 103]⟩ = false := by rw [← app_g]; exact retry_plain _

theorem awake_any (w : World) : Calls Try.prog 7 #[] w fun e w' => e = .returned (.bool true) ∧ Below w.heap.size w w' := by
  go_enter Try.func7, Try.ntmps7
  go_wp2_with fail
  refine (retry_any ⟨#[103]⟩ ⟨#[37, 114, 101, 116, 114, 121, 37, 103]⟩ true _ (by decide) g_is_group (by rw [if_pos rfl]; exact app_g)).mono ?_
  rintro e w1 ⟨rfl, hb⟩
  have HB := Lib.hid hb
  clear hb
  go_wp2_with fail
  refine (topic_any ⟨#[37, 114, 101, 116, 114, 121, 37, 103]⟩ _ (by decide)).mono ?_
  rintro e w2 ⟨rfl, hb⟩
  have HB2 := Lib.hid (HB.out.trans (hb.mono HB.out.size))
  clear hb HB
  rw [ex_topic]
  go_wp2_with fail
  refine (plain_any ⟨#[37, 114, 101, 116, 114, 121, 37, 103]⟩ _ (by decide)).mono ?_
  rintro e w3 ⟨rfl, hb⟩
  have HB3 := Lib.hid (HB2.out.trans (hb.mono HB2.out.size))
  clear hb HB2
  rw [ex_plain]
  go_wp2_with fail
  go_ret
  exact ⟨rfl, HB3.out⟩

set_option maxRecDepth 100000 in
set_option maxHeartbeats 4000000 in
theorem walk_NameTells (s : ByteArray) (w : World) (hm : s.size ≤ maxLen) :
    Calls Try.prog 3 #[.string s] w fun e w' => e = .returned (.bool true) ∧ Below w.heap.size w w' := by
  by_cases h1000 : 1000 < s.size
  · go_enter Try.func3, Try.ntmps3
    go_wp2_with fail
    refine (awake_any _).mono ?_
    rintro e w1 ⟨rfl, hb⟩
    have HB := Lib.hid hb
    clear hb
    go_wp2_with fail
    go_ret
    exact ⟨rfl, HB.out⟩
  · obtain ⟨p, hp⟩ : ∃ x, plainB s = x := ⟨_, rfl⟩
    obtain ⟨t, ht⟩ : ∃ x, topicB s = x := ⟨_, rfl⟩
    obtain ⟨g, hg⟩ : ∃ x, tagB s = x := ⟨_, rfl⟩
    obtain ⟨k, hk⟩ : ∃ x, keyB s = x := ⟨_, rfl⟩
    obtain ⟨o, ho⟩ : ∃ x, ofB s = x := ⟨_, rfl⟩
    have hi := isOwn_of s
    rw [ho] at hi
    have HP := Lib.hid hp
    have HT := Lib.hid ht
    have HG := Lib.hid hg
    have HK := Lib.hid hk
    have HO := Lib.hid ho
    have HI := Lib.hid hi.symm
    clear hp ht hg hk ho hi
    cases hgr : groupB s
    · have HGR := Lib.hid hgr
      clear hgr
      go_enter Try.func3, Try.ntmps3
      go_wp2_with fail
      refine (awake_any _).mono ?_
      rintro e w1 ⟨rfl, hb⟩
      have HB := Lib.hid hb
      clear hb
      go_wp2_with fail
      refine (of_any s _ hm).mono ?_
      rintro e w1 ⟨rfl, hb⟩
      have HB := Lib.hid (HB.out.trans (hb.mono HB.out.size))
      clear hb
      rw [HO.out, HI.out]
      go_wp2_with fail
      refine (plain_any s _ hm).mono ?_
      rintro e w1 ⟨rfl, hb⟩
      have HB := Lib.hid (HB.out.trans (hb.mono HB.out.size))
      clear hb
      rw [HP.out]
      go_wp2_with fail
      refine (refPlain_any s _ hm).mono ?_
      rintro e w1 ⟨rfl, rfl⟩
      rw [HP.out]
      go_wp2_with fail
      refine (group_any s _ hm).mono ?_
      rintro e w1 ⟨rfl, hb⟩
      have HB := Lib.hid (HB.out.trans (hb.mono HB.out.size))
      clear hb
      rw [HGR.out]
      go_wp2_with fail
      refine (refGroup_any s _ hm).mono ?_
      rintro e w1 ⟨rfl, rfl⟩
      rw [HGR.out]
      go_wp2_with fail
      refine (topic_any s _ hm).mono ?_
      rintro e w1 ⟨rfl, hb⟩
      have HB := Lib.hid (HB.out.trans (hb.mono HB.out.size))
      clear hb
      rw [HT.out]
      go_wp2_with fail
      refine (refTopic_any s _ hm).mono ?_
      rintro e w1 ⟨rfl, rfl⟩
      rw [HT.out]
      go_wp2_with fail
      refine (tag_any s _ hm).mono ?_
      rintro e w1 ⟨rfl, hb⟩
      have HB := Lib.hid (HB.out.trans (hb.mono HB.out.size))
      clear hb
      rw [HG.out]
      go_wp2_with fail
      refine (refTag_any s _ hm).mono ?_
      rintro e w1 ⟨rfl, rfl⟩
      rw [HG.out]
      go_wp2_with fail
      refine (key_any s _ hm).mono ?_
      rintro e w1 ⟨rfl, hb⟩
      have HB := Lib.hid (HB.out.trans (hb.mono HB.out.size))
      clear hb
      rw [HK.out]
      go_wp2_with fail
      refine (refKey_any s _ hm).mono ?_
      rintro e w1 ⟨rfl, rfl⟩
      rw [HK.out]
      go_wp2_with fail
      refine (refOf_any s _ hm).mono ?_
      rintro e w1 ⟨rfl, rfl⟩
      rw [HO.out]
      go_wp2_with fail
      refine (retry_any s ⟨#[]⟩ false _ hm HGR.out rfl).mono ?_
      rintro e w1 ⟨rfl, hb⟩
      have HB := Lib.hid (HB.out.trans (hb.mono HB.out.size))
      clear hb
      go_wp2_with fail
      refine (dead_any s ⟨#[]⟩ false _ hm HGR.out rfl).mono ?_
      rintro e w1 ⟨rfl, hb⟩
      have HB := Lib.hid (HB.out.trans (hb.mono HB.out.size))
      clear hb
      go_wp2_with fail
      refine (refGroup_any s _ hm).mono ?_
      rintro e w1 ⟨rfl, rfl⟩
      rw [HGR.out]
      go_wp2_with fail
      go_ret
      exact ⟨rfl, HB.out⟩
    · have h8 := (group_some hgr).2
      have hrm : (retryH ++ s).size ≤ maxLen := by rw [ByteArray.size_append]; unfold maxLen; change 7 + s.size ≤ _; omega
      have hdm : (deadH ++ s).size ≤ maxLen := by rw [ByteArray.size_append]; unfold maxLen; change 6 + s.size ≤ _; omega
      have hr15 : (retryH ++ s).size ≤ 16 := by rw [ByteArray.size_append]; change 7 + s.size ≤ _; omega
      have HR1 := Lib.hid (retry_of hgr)
      have HR2 := Lib.hid (retry_own hgr)
      have HR3 := Lib.hid (retry_topic hgr)
      have HD1 := Lib.hid (dead_of hgr)
      have HD2 := Lib.hid (dead_own hgr)
      have HD3 := Lib.hid (dead_topic hgr)
      have HGR := Lib.hid hgr
      clear hgr
      go_enter Try.func3, Try.ntmps3
      go_wp2_with fail
      refine (awake_any _).mono ?_
      rintro e w1 ⟨rfl, hb⟩
      have HB := Lib.hid hb
      clear hb
      go_wp2_with fail
      refine (of_any s _ hm).mono ?_
      rintro e w1 ⟨rfl, hb⟩
      have HB := Lib.hid (HB.out.trans (hb.mono HB.out.size))
      clear hb
      rw [HO.out, HI.out]
      go_wp2_with fail
      refine (plain_any s _ hm).mono ?_
      rintro e w1 ⟨rfl, hb⟩
      have HB := Lib.hid (HB.out.trans (hb.mono HB.out.size))
      clear hb
      rw [HP.out]
      go_wp2_with fail
      refine (refPlain_any s _ hm).mono ?_
      rintro e w1 ⟨rfl, rfl⟩
      rw [HP.out]
      go_wp2_with fail
      refine (group_any s _ hm).mono ?_
      rintro e w1 ⟨rfl, hb⟩
      have HB := Lib.hid (HB.out.trans (hb.mono HB.out.size))
      clear hb
      rw [HGR.out]
      go_wp2_with fail
      refine (refGroup_any s _ hm).mono ?_
      rintro e w1 ⟨rfl, rfl⟩
      rw [HGR.out]
      go_wp2_with fail
      refine (topic_any s _ hm).mono ?_
      rintro e w1 ⟨rfl, hb⟩
      have HB := Lib.hid (HB.out.trans (hb.mono HB.out.size))
      clear hb
      rw [HT.out]
      go_wp2_with fail
      refine (refTopic_any s _ hm).mono ?_
      rintro e w1 ⟨rfl, rfl⟩
      rw [HT.out]
      go_wp2_with fail
      refine (tag_any s _ hm).mono ?_
      rintro e w1 ⟨rfl, hb⟩
      have HB := Lib.hid (HB.out.trans (hb.mono HB.out.size))
      clear hb
      rw [HG.out]
      go_wp2_with fail
      refine (refTag_any s _ hm).mono ?_
      rintro e w1 ⟨rfl, rfl⟩
      rw [HG.out]
      go_wp2_with fail
      refine (key_any s _ hm).mono ?_
      rintro e w1 ⟨rfl, hb⟩
      have HB := Lib.hid (HB.out.trans (hb.mono HB.out.size))
      clear hb
      rw [HK.out]
      go_wp2_with fail
      refine (refKey_any s _ hm).mono ?_
      rintro e w1 ⟨rfl, rfl⟩
      rw [HK.out]
      go_wp2_with fail
      refine (refOf_any s _ hm).mono ?_
      rintro e w1 ⟨rfl, rfl⟩
      rw [HO.out]
      go_wp2_with fail
      refine (retry_any s (retryH ++ s) true _ hm HGR.out rfl).mono ?_
      rintro e w1 ⟨rfl, hb⟩
      have HB := Lib.hid (HB.out.trans (hb.mono HB.out.size))
      clear hb
      go_wp2_with fail
      refine (dead_any s (deadH ++ s) true _ hm HGR.out rfl).mono ?_
      rintro e w1 ⟨rfl, hb⟩
      have HB := Lib.hid (HB.out.trans (hb.mono HB.out.size))
      clear hb
      go_wp2_with fail
      refine (refGroup_any s _ hm).mono ?_
      rintro e w1 ⟨rfl, rfl⟩
      rw [HGR.out]
      go_wp2_with fail
      refine (of_any (retryH ++ s) _ hrm).mono ?_
      rintro e w1 ⟨rfl, hb⟩
      have HB := Lib.hid (HB.out.trans (hb.mono HB.out.size))
      clear hb
      rw [HR1.out, HR2.out]
      go_wp2_with fail
      refine (of_any (deadH ++ s) _ hdm).mono ?_
      rintro e w1 ⟨rfl, hb⟩
      have HB := Lib.hid (HB.out.trans (hb.mono HB.out.size))
      clear hb
      rw [HD1.out, HD2.out]
      go_wp2_with fail
      refine (topic_any (retryH ++ s) _ hrm).mono ?_
      rintro e w1 ⟨rfl, hb⟩
      have HB := Lib.hid (HB.out.trans (hb.mono HB.out.size))
      clear hb
      rw [HR3.out]
      go_wp2_with fail
      refine (topic_any (deadH ++ s) _ hdm).mono ?_
      rintro e w1 ⟨rfl, hb⟩
      have HB := Lib.hid (HB.out.trans (hb.mono HB.out.size))
      clear hb
      rw [HD3.out]
      go_wp2_with fail
      go_ret
      exact ⟨by simp; omega, HB.out⟩
end Go.Proofs.Ytkkcnkfglkhhoaa
