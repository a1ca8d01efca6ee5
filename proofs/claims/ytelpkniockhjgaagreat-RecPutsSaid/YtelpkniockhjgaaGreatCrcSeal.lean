/-
  The contracts of a table's Seal and Open.
-/
import Derived.Test.YtelpkniockhjgaaGreatCrcR
namespace Go.Proofs.YtelpkniockhjgaaGreat.Cr
open Go.RowKit Go.Deep

theorem Tab.alloc {w : World} {b : Nat} (h : Tab w b) (o : Obj) : Tab (w.alloc o) b := World.rowIs.alloc h o
theorem Tab.below {w w' : World} {b B : Nat} (h : Tab w b) (hb : Below B w w') (hB : b < B) : Tab w' b := World.rowIs.of_block h (hb.block b hB)
theorem Tab.lt {w : World} {b : Nat} (h : Tab w b) : b < w.heap.size := World.rowIs.lt h
theorem strs_one (w : World) (s : ByteArray) : Strs (w.alloc (.cells #[.string s] 9)) 0 (.slice (some ⟨w.heap.size, 0, none⟩) 1 1) [s] :=
  ⟨some ⟨w.heap.size, 0, none⟩, 1, rfl, .inr ⟨_, _, rfl, Nat.zero_le _, fun i hi => by
    obtain rfl : i = 0 := by simp at hi; exact hi
    simp⟩⟩

theorem seal_none (s : ByteArray) (w : World) : Calls Tryz.prog 29 #[.pointer none, .string s] w fun e w' => e = .returned (.string ⟨#[]⟩) ∧ w = w' := by
  go_enter Tryz.func29, Tryz.ntmps29
  go_wp2_with fail
  go_ret
  exact ⟨rfl, rfl⟩

theorem headV_by8 (n : Nat) (hn : n < 4294967296) : headV n = ((numB 4 n).map by8).toArray := by
  unfold headV
  simp only [numB, List.map, by8, UInt8.toNat_ofNat', Nat.reducePow]
  rw [Nat.mod_eq_of_lt (show n / 16777216 < 256 by omega), Nat.div_one]

theorem conv_four (w : World) (n : Nat) (hn : n < 4294967296) (t : TypeId) : (convert 70 9 (.slice (some ⟨w.heap.size, 0, none⟩) 4 4)).run Tryz.prog (w.alloc (.cells (headV n) t)) = .ok (.string ⟨(numB 4 n).toArray⟩) (w.alloc (.cells (headV n) t)) := by
  have hl := numB_length 4 n
  have h := run_convert_bytes_back (P := Tryz.prog) (w.alloc (.cells (headV n) t)) 70 9 5 ⟨w.heap.size, 0, none⟩ 4 (numB 4 n) Tryz.underlying70 Tryz.underlying5 Tryz.underlying9 fun j hj => by
    rw [add_none, headV_by8 n hn, cell_of_row _ _ _ _ t (0, 0) (heap_alloc_new w _)]
    simp [by8, List.getElem?_eq_getElem hj]
  rw [hl] at h
  exact h

set_option maxRecDepth 100000 in
theorem seal_any (b : Nat) (s : ByteArray) (w : World) (h : Tab w b) (hs : s.size ≤ 1000000) : Calls Tryz.prog 29 #[.pointer (some ⟨b, 0, none⟩), .string s] w fun e w' => e = .returned (.string ⟨(sealB s).toArray⟩) ∧ Below w.heap.size w w' := by
  obtain ⟨n, hn⟩ : ∃ n, n = crcL s.data.toList := ⟨_, rfl⟩
  have hlt := crcL_lt s.data.toList
  rw [← hn] at hlt
  have HE := Lib.hid (sealB_eq s)
  rw [← hn] at HE
  have HN := Lib.hid hn
  have hsz : (⟨(numB 4 n).toArray⟩ : ByteArray).size ≤ 4 := by simp [ByteArray.size, numB_length]
  have HT := Lib.hid (h.alloc (.cells #[.string s] 9))
  have HS := Lib.hid (strs_one w s)
  have HB := Lib.hid ((Below.refl w.heap.size w).alloc (Nat.le_refl _) (.cells #[.string s] 9))
  clear hn h
  go_enter Tryz.func29, Tryz.ntmps29
  go_wp2_with fail
  refine (sum_any b _ [s] _ HT.out HS.out (by unfold maxLen; simp) (by simp; unfold maxLen; omega)).mono ?_
  rintro e w1 ⟨rfl, k, rfl⟩
  rw [flatB_one, ← HN.out]
  go_wp2_with fail
  refine (headOf_any n _ hlt).mono ?_
  rintro e w2 ⟨rfl, hb⟩
  have hcv := conv_four w2 n hlt 74
  obtain ⟨x0, x1, x2, x3, hh⟩ : ∃ x0 x1 x2 x3 : Int, headV n = #[.int .u8 x0, .int .u8 x1, .int .u8 x2, .int .u8 x3] := ⟨_, _, _, _, rfl⟩
  rw [hh] at hcv ⊢
  have HB2 := Lib.hid ((below_drewN HB.out k).trans (hb.mono (by simp [World.drewN])))
  clear hh hb
  go_wp2_with fail
  go_ret
  exact ⟨by rw [← HE.out]; rfl, HB2.out.alloc HB2.out.size _⟩
end Go.Proofs.YtelpkniockhjgaaGreat.Cr
