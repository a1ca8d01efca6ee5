/-
  A group's topics: plain facts.
-/
import Derived.Test.YtelpkniockhjgaaGreatNamT
namespace Go.Proofs.YtelpkniockhjgaaGreat
open Go.RowKit Go.Deep

theorem ext0 (s : ByteArray) (n : Nat) : (s.extract 0 n).toList = s.data.toList.take n := by
  rw [ByteArray.toList_eq]
  simp [ByteArray.data_extract, List.extract_eq_take_drop]
theorem hasB_list (s h : ByteArray) : hasB s h = (decide (h.size ≤ s.size) && (s.data.toList.take h.size == h.data.toList)) := by
  unfold hasB; rw [ext0, ByteArray.toList_eq]
theorem data_app (a b : ByteArray) : (a ++ b).data.toList = a.data.toList ++ b.data.toList := by simp
theorem has_app (h g : ByteArray) : hasB (h ++ g) h = true := by
  rw [hasB_list, data_app, ByteArray.size_append]
  have e : h.size = h.data.toList.length := rfl
  rw [e, List.take_left]
  simp
theorem ext_app (h g : ByteArray) : (h ++ g).extract h.size (h ++ g).size = g := by
  apply ByteArray.ext
  apply Array.ext'
  have e : h.size = h.data.toList.length := rfl
  have e2 : (h ++ g).size = (h ++ g).data.toList.length := rfl
  have e3 : ((h ++ g).extract h.size (h ++ g).size).data.toList = ((h ++ g).data.toList.take (h ++ g).size).drop h.size := by
    simp [ByteArray.data_extract, List.extract_eq_take_drop, List.drop_take]
  rw [e3, e2, List.take_length, data_app, e, List.drop_left]
theorem dead_not_retry (g : ByteArray) : hasB (deadH ++ g) retryH = false := by
  rw [hasB_list, data_app, Bool.and_eq_false_iff]
  refine .inr ?_
  show (List.take 7 (37 :: 100 :: 101 :: 97 :: 100 :: 37 :: g.data.toList) == [37, 114, 101, 116, 114, 121, 37]) = false
  simp
theorem own_app (h g : ByteArray) : ownB (h ++ g) h = groupB g := own_has (has_app h g) (by rw [ext_app])
theorem retry_own {g : ByteArray} (hg : groupB g = true) : isOwn (retryH ++ g) = true := by
  unfold isOwn; rw [own_app, hg, Bool.true_or]
theorem dead_own {g : ByteArray} (hg : groupB g = true) : isOwn (deadH ++ g) = true := by
  unfold isOwn; rw [own_app, hg, Bool.or_true]
theorem retry_of {g : ByteArray} (hg : groupB g = true) : ofB (retryH ++ g) = g := by
  rw [of_retry (by rw [own_app, hg])]; exact ext_app retryH g
theorem dead_of {g : ByteArray} (hg : groupB g = true) : ofB (deadH ++ g) = g := by
  rw [of_dead (own_no (dead_not_retry g)) (by rw [own_app, hg])]; exact ext_app deadH g
theorem retry_topic {g : ByteArray} (hg : groupB g = true) : topicB (retryH ++ g) = true := by
  unfold topicB; rw [retry_own hg, Bool.true_or]
theorem dead_topic {g : ByteArray} (hg : groupB g = true) : topicB (deadH ++ g) = true := by
  unfold topicB; rw [dead_own hg, Bool.true_or]
theorem retry_plain (g : ByteArray) : plainB (retryH ++ g) = false := by
  unfold plainB okL
  rw [data_app]
  simp [inL, plainL]
theorem dead_plain (g : ByteArray) : plainB (deadH ++ g) = false := by
  unfold plainB okL
  rw [data_app]
  simp [inL, plainL]
theorem group_plain {g : ByteArray} (hg : groupB g = true) : plainB g = true := by
  rw [group_of, Bool.and_eq_true] at hg; exact hg.1
theorem toList_app (a b : ByteArray) : (a ++ b).toList = a.data.toList ++ b.data.toList := by rw [ByteArray.toList_eq, data_app]
theorem retry_ne_dead (a b : ByteArray) : ((retryH ++ a).toList == (deadH ++ b).toList) = false := by
  rw [toList_app, toList_app]; simp
theorem app_eq (h a b : ByteArray) : ((h ++ a).toList == (h ++ b).toList) = (a.toList == b.toList) := by
  rw [toList_app, toList_app, ByteArray.toList_eq, ByteArray.toList_eq, Bool.eq_iff_iff, beq_iff_eq, beq_iff_eq]
  exact List.append_right_inj _
theorem g_is_group : groupB ⟨#[103]⟩ = true := by
  unfold groupB okL; simp [inL, plainL, ByteArray.size]
theorem app_g : retryH ++ ⟨#[103]⟩ = ⟨#[37, 114, 101, 116, 114, 121, 37, 103]⟩ := by
  apply ByteArray.ext; rfl
end Go.Proofs.YtelpkniockhjgaaGreat
