/-
  entry: the example; Cut.
-/
import Derived.Test.YtcbjlleigbnogaaEntE
import Derived.Lib.SliceRun
namespace Go.Proofs.Ytcbjlleigbnogaa
open Go.RowKit Go.Deep
set_option linter.unusedVariables false
set_option linter.unusedSimpArgs false

theorem zero20 : put4 [6, 2, 5, 7] [0, 0, 0, 0] = ⟨(List.replicate 20 0).toArray⟩ := by decide +kernel
theorem zero20_ok : fit4 [6, 2, 5, 7] [0, 0, 0, 0] = true := by decide +kernel
theorem make20 : ∃ Z, (∀ W : World, (Instr.makeSlice 47 (.int .i64 20) (.int .i64 20)).run Try.prog W = .ok (.slice (some ⟨W.heap.size, 0, none⟩) 20 20) (W.alloc (.cells Z 5))) ∧
    ∀ W : World, (convert 47 9 (.slice (some ⟨W.heap.size, 0, none⟩) 20 20)).run Try.prog (W.alloc (.cells Z 5)) = .ok (.string ⟨(List.replicate 20 0).toArray⟩) (W.alloc (.cells Z 5)) := by
  refine ⟨madeCells #[.int .u8 0] 20, fun W => run_make_row' (P := Try.prog) 47 5 (.int .u8 0) 1 Try.underlying47 infoBy rfl .i64 .i64 20 (by omega) (by omega) W, fun W => ?_⟩
  have h := World.rowIs_made W (.int .u8 0) 20 5
  refine run_convert_bytes_back _ 47 9 5 _ 20 (List.replicate 20 0) Try.underlying47 Try.underlying5 Try.underlying9 fun j hj => ?_
  rw [List.length_replicate] at hj
  rw [add_none, Nat.zero_add, h.cell hj, List.getElem_replicate]
  rfl

theorem eawake_any (w : World) : Calls Try.prog 6 #[] w fun e w' => e = .returned (.bool true) ∧ Below w.heap.size w w' := by
  obtain ⟨Z, hmk, hcv⟩ := make20
  have h1 := zero20
  obtain ⟨z, hz⟩ : ∃ z : ByteArray, z = ⟨(List.replicate 20 0).toArray⟩ := ⟨_, rfl⟩
  rw [← hz] at hcv h1
  have H1 := Lib.hid h1
  clear h1 hz
  go_enter Try.func6, Try.ntmps6
  go_wp2_with fail
  refine (placePut_any 0 0 0 0 _).mono ?_
  rintro e w1 ⟨rfl, hb⟩
  rw [H1.out, zero20_ok]
  have HB := Lib.hid hb
  clear hb
  go_wp2_with fail
  go_ret
  exact ⟨rfl, HB.out.alloc HB.out.size _⟩

/-- The pieces of twenty. -/
def piece (s : ByteArray) (i : Nat) : ByteArray := s.extract (i * 20) (i * 20 + 20)
def pieces (s : ByteArray) : List ByteArray := (List.range (s.size / 20)).map (piece s)
theorem pieces_getD (s : ByteArray) (i : Nat) (h : i < s.size / 20) : (pieces s).getD i ⟨#[]⟩ = piece s i := by
  unfold pieces
  rw [List.getD_eq_getElem?_getD, List.getElem?_map, List.getElem?_range h]
  rfl
def CutPost (w : World) (s : ByteArray) (e : Ending) (w' : World) : Prop :=
  if s.size % 20 = 0 then (∃ v, e = .returned (.tuple #[v, .bool true]) ∧ Strs w' w.heap.size v (pieces s)) ∧ Below w.heap.size w w'
  else e = .returned (.tuple #[.slice none 0 0, .bool false]) ∧ w' = w

theorem makeN (n : Nat) (h : n ≤ 1000000000) : ∃ Z, (∀ W : World, (Instr.makeSlice 40 (.int .i64 n) (.int .i64 n)).run Try.prog W = .ok (.slice (some ⟨W.heap.size, 0, none⟩) n n) (W.alloc (.cells Z 9))) ∧
    ∀ W : World, (W.alloc (.cells Z 9)).rowIs W.heap.size 9 n (fun _ => .string ⟨#[]⟩) :=
  ⟨madeCells #[.string ⟨#[]⟩] n, fun W => run_make_row' (P := Try.prog) 40 9 (.string ⟨#[]⟩) 16 Try.underlying40 (by kernel_rfl) rfl .i64 .i64 n (by omega) (by omega) W, fun W => World.rowIs_made W (.string ⟨#[]⟩) n 9⟩

set_option maxHeartbeats 1000000 in
theorem ecut_any (s : ByteArray) (hs : s.size ≤ 1000000000) (w : World) : Calls Try.prog 14 #[.string s] w (CutPost w s) := by
  by_cases h : s.size % 20 = 0
  · obtain ⟨n, hn⟩ : ∃ n, s.size = n * 20 := ⟨s.size / 20, by omega⟩
    have hdiv : s.size / 20 = n := by omega
    obtain ⟨Z, hmk, hrow⟩ := makeN n (by omega)
    have e1 : ((s.size : Int) % 20) = 0 := by omega
    have e2 : ((s.size : Int) / 20) = n := by omega
    have e3 : (0 : Int) ≤ s.size := by omega
    have HROW := Lib.hid hrow
    have HDIV := Lib.hid hdiv
    have HN := Lib.hid hn
    have HH := Lib.hid h
    clear hrow hdiv hn h
    go_enter Try.func14, Try.ntmps14
    go_wp2_with fail
    go_loopw [16] (fun i wr => ∃ k : Nat, k ≤ n ∧ i = .int .i64 k ∧ Hid (wr.rowIs w.heap.size 9 n (fun j => .string (if j < k then piece s j else ⟨#[]⟩))) ∧ Hid (Below w.heap.size w wr)) (fun i _ => n - (intOf i).toNat)
    case atStart =>
      exact ⟨0, Nat.zero_le _, rfl, Lib.hid ((HROW.out w).congr (fun i hi => by simp)), Lib.hid ((Below.refl _ _).alloc (Nat.le_refl _) _)⟩
    case round =>
      obtain ⟨k, hk, rfl, hr, hb⟩ := hrel
      by_cases hlt : k < n
      · have d4 := hr.out.cell hlt
        have f4 := hr.out.frozen k
        have hle : (k + 1) * 20 ≤ s.size := by rw [HN.out]; exact Nat.mul_le_mul_right _ hlt
        go_wp2_with fail
        refine ⟨⟨k + 1, by omega, by go_num, Lib.hid ((hr.out.set k _).congr (fun i hi => ?_)), Lib.hid (hb.out.setCell (p := ⟨w.heap.size, k, none⟩) (Nat.le_refl _) _)⟩, by simp [intOf]; omega⟩
        rw [show (k + 1) * 20 = k * 20 + 20 from by omega]
        rcases Nat.lt_trichotomy i k with h | rfl | h
        · simp [Nat.ne_of_lt h, h, Nat.lt_succ_of_lt h]
        · simp [piece]
        · rw [if_neg (by omega), if_neg (by omega), if_neg (by omega)]
      · obtain rfl : k = n := by omega
        go_wp2_with fail
        go_ret2
        unfold CutPost
        rw [if_pos HH.out]
        have hl : (pieces s).length = k := by unfold pieces; rw [List.length_map, List.length_range, HDIV.out]
        refine ⟨⟨.slice (some ⟨w.heap.size, 0, none⟩) k k, rfl, some ⟨w.heap.size, 0, none⟩, k, by rw [hl], .inr ⟨w.heap.size, 0, rfl, Nat.le_refl _, fun i hi => ?_⟩⟩, hb.out⟩
        rw [hl] at hi
        rw [Nat.zero_add, hr.out.cell hi, pieces_getD s i (by rw [HDIV.out]; exact hi), if_pos hi]
  · have e1 : ¬ ((s.size : Int) % 20) = 0 := by omega
    have e2 : (((s.size : Int) % 20) == 0) = false := by simpa using e1
    have HH := Lib.hid h
    clear h e1
    go_enter Try.func14, Try.ntmps14
    go_wp2_with fail
    go_ret2
    unfold CutPost
    rw [if_neg HH.out]
    exact ⟨rfl, rfl⟩
end Go.Proofs.Ytcbjlleigbnogaa
