/-
  A text's number: the contract of Hash.
-/
import Derived.Test.YtdhpemkmfkcadaaDoorFlat
namespace Go.Proofs.YtdhpemkmfkcadaaDoor
open Go.RowKit Go.Deep

/-- A text's number, from one on. -/
def hashF (h : Nat) (l : List UInt8) : Nat := l.foldl (fun h c => (31 * h + c.toNat) % 4294967296) h
theorem hashF_snoc (h : Nat) (l : List UInt8) (c : UInt8) : hashF h (l ++ [c]) = (31 * hashF h l + c.toNat) % 4294967296 := by
  unfold hashF; rw [List.foldl_append]; rfl
theorem hashF_app (h : Nat) (l m : List UInt8) : hashF h (l ++ m) = hashF (hashF h l) m := by
  unfold hashF; rw [List.foldl_append]
theorem hashF_lt {h : Nat} (hh : h < 4294967296) (l : List UInt8) : hashF h l < 4294967296 := by
  unfold hashF
  induction l generalizing h with
  | nil => exact hh
  | cons c l ih => exact ih (Nat.mod_lt _ (by decide))

set_option maxRecDepth 100000 in
theorem hash_any (v : Value) (ts : List ByteArray) (w : World) (hv : Strs w 0 v ts) (hl : ts.length ≤ maxLen) (hs : ∀ t ∈ ts, t.size ≤ maxLen) :
    Calls Tryd.prog 21 #[v] w fun e w' => e = .returned (.int .i64 (hashF 0 (flatB ts) : Nat)) ∧ w = w' := by
  unfold maxLen at hl
  have HV := Lib.hid hv
  have HSZ := Lib.hid hs
  obtain ⟨a, cap, rfl⟩ := hv.form
  clear hv hs
  go_enter Tryd.func21, Tryd.ntmps21
  go_wp2_with fail
  go_loop [3, 9] (fun x i => ∃ k : Nat, k ≤ ts.length ∧ i = .int .i64 k ∧ x = .int .u32 (hashF 0 (flatB (ts.take k)) : Nat)) (fun _ i => ts.length - (intOf i).toNat)
  case atStart => exact ⟨0, Nat.zero_le _, rfl, rfl⟩
  case round =>
    obtain ⟨k, hk, rfl, rfl⟩ := hrel
    have hl0 := hashF_lt (h := 0) (by decide) (flatB (ts.take k))
    by_cases hlt : k < ts.length
    · obtain ⟨b, o, rfl, hck⟩ := HV.out.cellAt hlt
      have hsn := flatB_snoc ts hlt
      obtain ⟨s, hse⟩ : ∃ s, s = ts.getD k ⟨#[]⟩ := ⟨_, rfl⟩
      rw [← hse] at hck hsn
      have hsz : s.size ≤ maxLen := HSZ.out s (by rw [hse]; simp [List.getD_eq_getElem?_getD, List.getElem?_eq_getElem hlt])
      unfold maxLen at hsz
      have hsh : hashF 0 (flatB (ts.take (k + 1))) = hashF (hashF 0 (flatB (ts.take k))) s.data.toList := by rw [hsn, hashF_app]
      obtain ⟨h, hh⟩ : ∃ h, h = hashF 0 (flatB (ts.take k)) := ⟨_, rfl⟩
      rw [← hh] at hl0 hsh ⊢
      have HH := Lib.hid hsh
      clear hse hsn hsh hh
      go_wp2_with fail
      go_loop [3, 15] (fun x i => ∃ j : Nat, j ≤ s.size ∧ i = .int .i64 j ∧ x = .int .u32 (hashF h (s.data.toList.take j) : Nat)) (fun _ i => s.size - (intOf i).toNat)
      case atStart => exact ⟨0, Nat.zero_le _, rfl, rfl⟩
      case round =>
        obtain ⟨j, hj, rfl, rfl⟩ := hrel
        have hl1 := hashF_lt hl0 (s.data.toList.take j)
        by_cases hjt : j < s.size
        · have hc := s[j].toNat_lt
          have hsn := hashF_snoc h (s.data.toList.take j) s[j]
          rw [← take_snoc s j hjt] at hsn
          obtain ⟨q, hq⟩ : ∃ q, q = hashF h (s.data.toList.take j) := ⟨_, rfl⟩
          rw [← hq] at hl1 hsn ⊢
          have HQ := Lib.hid hq
          have HS := Lib.hid hsn
          clear hq hsn
          go_wp2_with fail
          refine ⟨⟨j + 1, by omega, by go_num, ?_⟩, by simp [intOf]; omega⟩
          rw [HS.out, show ((31 * (q : Int) % 4294967296 + (s[j].toNat : Int)) % 4294967296) = (((31 * q + s[j].toNat) % 4294967296 : Nat) : Int) from by omega]
        · have HJ : Hid (hashF h (s.data.toList.take j) = hashF 0 (flatB (ts.take (k + 1)))) := Lib.hid (by rw [HH.out, List.take_of_length_le (by simp; omega)])
          go_wp2_with fail
          exact ⟨⟨k + 1, by omega, by go_num, by rw [HJ.out]⟩, by simp [intOf]; omega⟩
    · obtain rfl : k = ts.length := by omega
      rw [List.take_of_length_le (Nat.le_refl _)] at hl0 ⊢
      obtain ⟨q, hq⟩ : ∃ q, q = hashF 0 (flatB ts) := ⟨_, rfl⟩
      rw [← hq] at hl0
      have HQ := Lib.hid hq
      rw [← hq]
      clear hq
      go_wp2_with fail
      go_ret
      exact ⟨by rw [← HQ.out]; rfl, rfl⟩
end Go.Proofs.YtdhpemkmfkcadaaDoor
