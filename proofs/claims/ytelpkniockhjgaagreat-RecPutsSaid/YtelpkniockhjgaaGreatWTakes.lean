/-
  OctetTakes, walked: true for every input; only new memory is written.
-/
import Derived.Test.YtelpkniockhjgaaGreatWrite
namespace Go.Proofs.YtelpkniockhjgaaGreat.Oc
open Go.RowKit Go.Deep

/-- What End answers. -/
def endE (s : ByteArray) (x : Int) : Int := if x = 0 then (if 0 < s.size then 4 else 0) else x
theorem Rd.new (w : World) (s : ByteArray) : Rd (w.alloc (.cells #[.string s, .int .i64 0] 94)) w.heap.size s 0 := heap_alloc_new w _

theorem end_any (b : Nat) (s : ByteArray) (x : Int) (w : World) (h : Rd w b s x) : Calls Tryz.prog 78 #[.pointer (some ⟨b, 0, none⟩)] w fun e w' => e = .returned (.int .i64 (endE s x)) ∧ w = w' := by
  have H := Lib.hid h
  clear h
  by_cases hx : x = 0
  · subst hx
    by_cases hs : 0 < s.size
    all_goals
      go_enter Tryz.func78, Tryz.ntmps78
      go_wp2_with fail
      refine (err_any _ _ _ _ H.out).mono ?_
      rintro e w' ⟨rfl, rfl⟩
      go_wp2_with fail
      refine (left_any _ _ _ _ H.out).mono ?_
      rintro e w' ⟨rfl, rfl⟩
      go_wp2_with fail
      go_ret
      exact ⟨by simp [endE, hs], rfl⟩
  · have hb : (x == 0) = false := by simpa using hx
    have HX := Lib.hid hx
    clear hx
    go_enter Tryz.func78, Tryz.ntmps78
    go_wp2_with fail
    refine (err_any _ _ _ _ H.out).mono ?_
    rintro e w' ⟨rfl, rfl⟩
    go_wp2_with fail
    go_ret
    exact ⟨by rw [endE, if_neg HX.out]; rfl, rfl⟩

theorem nil_Err (w : World) : Calls Tryz.prog 73 #[.pointer none] w fun e w' => e = .returned (.int .i64 1) ∧ w = w' := by
  go_enter Tryz.func73, Tryz.ntmps73
  go_wp2
  go_ret
  exact ⟨rfl, rfl⟩
theorem nil_Left (w : World) : Calls Tryz.prog 98 #[.pointer none] w fun e w' => e = .returned (.int .i64 0) ∧ w = w' := by
  go_enter Tryz.func98, Tryz.ntmps98
  go_wp2
  go_ret
  exact ⟨rfl, rfl⟩
theorem nil_Num (n : Int) (w : World) : Calls Tryz.prog 56 #[.pointer none, .int .i64 n] w fun e w' => e = .returned (.int .i64 0) ∧ w = w' := by
  go_enter Tryz.func56, Tryz.ntmps56
  go_wp2
  go_ret
  exact ⟨rfl, rfl⟩
theorem nil_Text (n : Int) (w : World) : Calls Tryz.prog 76 #[.pointer none, .int .i64 n] w fun e w' => e = .returned (.string ⟨#[]⟩) ∧ w = w' := by
  go_enter Tryz.func76, Tryz.ntmps76
  go_wp2
  go_ret
  exact ⟨rfl, rfl⟩
theorem nil_List (n : Int) (m : Int) (w : World) : Calls Tryz.prog 77 #[.pointer none, .int .i64 n, .int .i64 m] w fun e w' => e = .returned (.slice none 0 0) ∧ w = w' := by
  go_enter Tryz.func77, Tryz.ntmps77
  go_wp2
  go_ret
  exact ⟨rfl, rfl⟩
theorem nil_End (w : World) : Calls Tryz.prog 78 #[.pointer none] w fun e w' => e = .returned (.int .i64 1) ∧ w = w' := by
  go_enter Tryz.func78, Tryz.ntmps78
  go_wp2
  go_ret
  exact ⟨rfl, rfl⟩

end Go.Proofs.YtelpkniockhjgaaGreat.Oc
