/- A part. -/
import Derived.Test.YtdnhgodfmjapmaaGreatDoorDon3
import Derived.Test.YtdnhgodfmjapmaaGreatDoorDon6
set_option linter.unusedVariables false
set_option linter.unusedSimpArgs false
namespace Go.Proofs.YtdnhgodfmjapmaaGreatDoor
open Go.RowKit Go.ChangeMaps Go.WideShapes
open Go.Maps (Keyed)
abbrev QK := { p : ByteArray × Int // p.1.size ≤ maxLen ∧ (Lit.int .i64 p.2).wf = true }
def QK.kv (k : QK) : Value := .agg #[.string k.1.1, .int .i64 k.1.2]
def QK.kl (k : QK) : Lit := .string (keyBytes [.string k.1.1.data.toList, .int .i64 k.1.2])
theorem q_laidOut : laidOutB Tryz.prog = true := by kernel_rfl
theorem q_row : (98 : TypeId) < Tryz.prog.types.size := of_decide_eq_true (by kernel_rfl)
theorem q_wide : (match Tryz.prog.underlying 98 with | some (.array _ _) | some (.struct _) => true | _ => false) = true := by kernel_rfl
set_option maxRecDepth 100000 in
theorem q_law : WideMaps.KeyLaw Tryz.prog 98 := deep_law_laid q_laidOut (m := 2) (by omega) q_row (by kernel_rfl) q_wide
theorem q_keyed : Keyed Tryz.prog 98 := Keyed.of_law q_law
theorem q_keyType : Tryz.prog.keyType 98 = true := by kernel_rfl
theorem q_cells : Tryz.prog.cellsOf 98 = 2 := by kernel_rfl
theorem q_size : ∃ d, Tryz.prog.types.size = d + 1 := Nat.exists_eq_succ_of_ne_zero (Nat.ne_of_gt (Nat.lt_of_le_of_lt (Nat.zero_le _) q_row))
theorem q_cells1 : Tryz.prog.cellsOf 9 = 1 := by kernel_rfl
theorem q_cells2 : Tryz.prog.cellsOf 3 = 1 := by kernel_rfl
set_option maxRecDepth 100000 in
theorem q_lits (c0 c1 : Value) : Tryz.prog.keyLits (Tryz.prog.types.size + 1) 98 [c0, c1] =
    ((match c0 with | .string s => if s.size ≤ maxLen then some [Lit.string s.data.toList] else none | _ => none).bind fun a => (match c1 with | .int q' n => if q' = IntKind.i64 ∧ (Lit.int .i64 n).wf = true then some [Lit.int .i64 n] else none | _ => none).bind fun b => some (a ++ b)) := by
  obtain ⟨d, hd⟩ := q_size
  rw [hd]
  have e0 : ∀ c0 : Value, Tryz.prog.keyLits (d + 1) 9 [c0] = (match c0 with | .string s => if s.size ≤ maxLen then some [Lit.string s.data.toList] else none | _ => none) := fun c0 => by
    unfold Program.keyLits
    rw [Tryz.underlying9]
    cases c0 <;> rfl
  have e1 : ∀ c1 : Value, Tryz.prog.keyLits (d + 1) 3 [c1] = (match c1 with | .int q' n => if q' = IntKind.i64 ∧ (Lit.int .i64 n).wf = true then some [Lit.int .i64 n] else none | _ => none) := fun c1 => by
    unfold Program.keyLits
    rw [Tryz.underlying3]
    cases c1 <;> rfl
  rw [Program.keyLits.eq_def]
  simp only [Tryz.underlying98]
  simp only [q_cells]
  rw [if_pos (by refine ⟨rfl, ?_⟩; decide +kernel)]
  simp only [List.mapM_cons, List.mapM_nil, q_cells1, q_cells2, List.drop_zero, List.drop_succ_cons, List.take_succ_cons, List.take_zero, e0, e1]
  cases (match c0 with | .string s => if s.size ≤ maxLen then some [Lit.string s.data.toList] else none | _ => none) <;> simp
  rename_i a
  cases (match c1 with | .int q' n => if q' = IntKind.i64 ∧ (Lit.int .i64 n).wf = true then some [Lit.int .i64 n] else none | _ => none) <;> simp
set_option maxRecDepth 100000 in
theorem q_keyOf (k : QK) : keyOf Tryz.prog 98 k.kv = some k.kl := by
  obtain ⟨⟨t, q⟩, h1, h2⟩ := k
  have hl : Tryz.prog.keyLits (Tryz.prog.types.size + 1) 98 [.string t, .int .i64 q] = some [.string t.data.toList, .int .i64 q] := by
    have h1 : t.size ≤ maxLen := h1
    have h2 : (Lit.int .i64 q).wf = true := h2
    rw [q_lits]
    simp [h1, h2]
  have hf : (QK.kv ⟨⟨t, q⟩, h1, h2⟩).formed Tryz.prog 98 = true := by
    unfold QK.kv Value.formed
    rw [Tryz.underlying98]
    simp [q_cells]
  unfold keyOf
  rw [Tryz.underlying98]
  simp only [q_keyType, hf, Bool.and_self, if_true]
  show Option.map _ (Tryz.prog.keyLits _ _ [.string t, .int .i64 q]) = _
  rw [hl]
  rfl
set_option maxRecDepth 100000 in
theorem q_inv (v : Value) (l : Lit) (h : keyOf Tryz.prog 98 v = some l) : ∃ k : QK, v = k.kv ∧ l = k.kl := by
  have h0 := h
  unfold keyOf at h
  rw [Tryz.underlying98] at h
  simp only at h
  split at h
  · rename_i hc
    rw [Bool.and_eq_true] at hc
    have hf := hc.2
    unfold Value.formed at hf
    rw [Tryz.underlying98] at hf
    cases v <;> simp at hf
    rename_i cs
    rw [q_cells] at hf
    obtain ⟨cl⟩ := cs
    match cl, hf with
    | [c0, c1], _ =>
      have e : (Value.agg #[c0, c1]).cells.toList = [c0, c1] := rfl
      rw [show (Value.agg ⟨[c0, c1]⟩) = Value.agg #[c0, c1] from rfl, e, q_lits c0 c1] at h
      cases c0 <;> simp at h
      rename_i s hz
      split at h
      · rename_i hs
        cases c1 <;> simp at h
        rename_i q' n
        by_cases hw : q' = IntKind.i64 ∧ (Lit.int .i64 n).wf = true
        · obtain ⟨rfl, hw⟩ := hw
          simp [hw] at h
          exact ⟨⟨⟨s, n⟩, hs, hw⟩, rfl, h.symm⟩
        · simp [hw] at h
      · simp at h
  · cases h
noncomputable def qK : KeyK Tryz.prog 98 QK where
  kv := QK.kv
  kl := QK.kl
  ok _ := True
  law := q_keyed
  key k _ := q_keyOf k
  inv v l h := by obtain ⟨k, h1, h2⟩ := q_inv v l h; exact ⟨k, trivial, h1, h2⟩
  isK _ := trivial
  inj a b h := by
    have h1 := q_keyOf a
    rw [h, ← q_keyOf b] at h1
    have h2 : a.kv = b.kv := q_keyed.inj (h1.trans (q_keyOf b)) (q_keyOf b)
    obtain ⟨⟨t, q⟩, a1, a2⟩ := a
    obtain ⟨⟨u, r⟩, b1, b2⟩ := b
    unfold QK.kv at h2
    simp at h2
    obtain ⟨rfl, rfl⟩ := h2
    rfl
def optV (o : Option Nat) : Value := .pointer (o.map fun b => ⟨b, 0, none⟩)
def optR : Value → Option (DataW Unit × List MemPlace)
  | .pointer none => some (.nil, [])
  | .pointer (some ⟨b, 0, none⟩) => some (.lit (.int .i64 b), [])
  | _ => none
def optD : Option Nat → DataW Unit
  | none => .nil
  | some b => .lit (.int .i64 b)
theorem optR_inv {v : Value} {y : DataW Unit × List MemPlace} (h : optR v = some y) : ∃ o : Option Nat, v = optV o ∧ y = (optD o, []) := by
  unfold optR at h
  split at h
  · cases h; exact ⟨none, rfl, rfl⟩
  · cases h; exact ⟨some _, rfl, rfl⟩
  · cases h
def lnEl : ElK (Option Nat) where
  R := optR
  ev := optV
  ed := optD
  el o := by cases o <;> rfl
  inv _ _ h := optR_inv h
  inj a b h := by
    cases a <;> cases b
    · rfl
    · cases h
    · cases h
    · unfold optD at h
      injection h with h
      injection h with _ h
      rw [Int.ofNat_inj.1 h]
theorem zero_line (w : World) : (zeroValue 99).run Tryz.prog w = .ok (lnEl.ev none) w := by kernel_rfl
end Go.Proofs.YtdnhgodfmjapmaaGreatDoor
