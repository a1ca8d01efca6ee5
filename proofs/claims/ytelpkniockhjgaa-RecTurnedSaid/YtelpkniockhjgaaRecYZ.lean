/-
  OpenMsg, RecY, RecZ, in one text.
-/
import Derived.Test.YtelpkniockhjgaaRecV
import Derived.Lib.SmallJoins
import Derived.Test.YtelpkniockhjgaaRecW
import Derived.BigQuiet
import Derived.Deep.QuietTactic
import Derived.StillTailTactics
/-! ### OpenMsg -/
namespace Go.Proofs.Ytelpkniockhjgaa
open Go.Joins Go.ChangeShapes Go.WideShapes Go.RowKit Go.Deep
set_option linter.unusedVariables false
set_option linter.unusedSimpArgs false

section
variable {H : Type} {enc : TypeId × Value → H} {P : Program} {w : World} {base : Nat} {spare : Nat → Bool} {held : Bool}
theorem open_agg10 {r : Reach} {b0 : Nat} {t : TypeId} {f0 f1 f2 f3 f4 f5 f6 f7 f8 f9 : Field} {v : Value} {d : DataW H} {p : List MemPlace} (hs : P.underlying t = some (.struct #[f0, f1, f2, f3, f4, f5, f6, f7, f8, f9])) (hone : oneCellFields P #[f0, f1, f2, f3, f4, f5, f6, f7, f8, f9] = true) (hC : P.cellsOf t = 10)
    (hv : Value.okWide P w r b0 t v) (h : DataW.Trod enc P w base spare held t v d p) :
    ∃ (v0 v1 v2 v3 v4 v5 v6 v7 v8 v9 : Value) (y0 y1 y2 y3 y4 y5 y6 y7 y8 y9 : DataW H × List MemPlace) (n : Nat), v = .agg #[v0, v1, v2, v3, v4, v5, v6, v7, v8, v9] ∧ d = .agg [y0.1, y1.1, y2.1, y3.1, y4.1, y5.1, y6.1, y7.1, y8.1, y9.1] ∧ p = y0.2 ++ (y1.2 ++ (y2.2 ++ (y3.2 ++ (y4.2 ++ (y5.2 ++ (y6.2 ++ (y7.2 ++ (y8.2 ++ (y9.2))))))))) ∧
      DataW.trod enc P w base spare held n f0.type [v0] = some y0 ∧ DataW.trod enc P w base spare held n f1.type [v1] = some y1 ∧ DataW.trod enc P w base spare held n f2.type [v2] = some y2 ∧ DataW.trod enc P w base spare held n f3.type [v3] = some y3 ∧ DataW.trod enc P w base spare held n f4.type [v4] = some y4 ∧ DataW.trod enc P w base spare held n f5.type [v5] = some y5 ∧ DataW.trod enc P w base spare held n f6.type [v6] = some y6 ∧ DataW.trod enc P w base spare held n f7.type [v7] = some y7 ∧ DataW.trod enc P w base spare held n f8.type [v8] = some y8 ∧ DataW.trod enc P w base spare held n f9.type [v9] = some y9 := by
  obtain ⟨cs, rfl, hsz⟩ := okWide_struct hs hv
  obtain ⟨l⟩ := cs
  match l, hsz.trans hC with
  | [c0, c1, c2, c3, c4, c5, c6, c7, c8, c9], _ =>
    obtain ⟨fuel, hf⟩ := h
    obtain ⟨xs, n, _, hx, _, hlen, hg⟩ := DataW.trod_struct hs hf
    obtain ⟨o0, k0⟩ := hone_of hone 0 f0 rfl
    obtain ⟨o1, k1⟩ := hone_of hone 1 f1 rfl
    obtain ⟨o2, k2⟩ := hone_of hone 2 f2 rfl
    obtain ⟨o3, k3⟩ := hone_of hone 3 f3 rfl
    obtain ⟨o4, k4⟩ := hone_of hone 4 f4 rfl
    obtain ⟨o5, k5⟩ := hone_of hone 5 f5 rfl
    obtain ⟨o6, k6⟩ := hone_of hone 6 f6 rfl
    obtain ⟨o7, k7⟩ := hone_of hone 7 f7 rfl
    obtain ⟨o8, k8⟩ := hone_of hone 8 f8 rfl
    obtain ⟨o9, k9⟩ := hone_of hone 9 f9 rfl
    match xs, hlen with
    | [y0, y1, y2, y3, y4, y5, y6, y7, y8, y9], _ =>
      simp only [Prod.mk.injEq] at hx
      exact ⟨c0, c1, c2, c3, c4, c5, c6, c7, c8, c9, y0, y1, y2, y3, y4, y5, y6, y7, y8, y9, n, rfl, by simpa using hx.1, by simpa using hx.2, by simpa [Value.cells, o0, k0] using hg 0 f0 rfl, by simpa [Value.cells, o1, k1] using hg 1 f1 rfl, by simpa [Value.cells, o2, k2] using hg 2 f2 rfl, by simpa [Value.cells, o3, k3] using hg 3 f3 rfl, by simpa [Value.cells, o4, k4] using hg 4 f4 rfl, by simpa [Value.cells, o5, k5] using hg 5 f5 rfl, by simpa [Value.cells, o6, k6] using hg 6 f6 rfl, by simpa [Value.cells, o7, k7] using hg 7 f7 rfl, by simpa [Value.cells, o8, k8] using hg 8 f8 rfl, by simpa [Value.cells, o9, k9] using hg 9 f9 rfl⟩
end
set_option maxRecDepth 100000 in
theorem open_msg {H : Type} {enc : TypeId × Value → H} {w : World} {r : Reach} {bb : Nat} {v : Value} {d : DataW H} {p : List MemPlace} (hv : Value.okWide Try.prog w r bb 24 v) (h : DataW.Trod enc Try.prog w 0 (fun _ => true) true 24 v d p) :
    ∃ (m : MsgM) (vk : Value), v = m.val vk ∧ Sized w (m, vk) ∧ CapOk vk := by
  obtain ⟨v0, v1, v2, v3, v4, v5, v6, v7, v8, v9, y0, y1, y2, y3, y4, y5, y6, y7, y8, y9, n, rfl, hd, hp, g0, g1, g2, g3, g4, g5, g6, g7, g8, g9⟩ := open_agg10 Try.underlying24 (by kernel_rfl) (by kernel_rfl) hv h
  obtain ⟨b0, e0, _, _⟩ := DataW.trod_int Try.underlying3 g0
  obtain rfl : v0 = _ := List.singleton_inj.1 e0
  obtain ⟨b1, e1, _, _⟩ := DataW.trod_int Try.underlying3 g1
  obtain rfl : v1 = _ := List.singleton_inj.1 e1
  obtain ⟨b2, e2, _, _⟩ := DataW.trod_int Try.underlying3 g2
  obtain rfl : v2 = _ := List.singleton_inj.1 e2
  obtain ⟨b3, e3, _, _⟩ := DataW.trod_int Try.underlying3 g3
  obtain rfl : v3 = _ := List.singleton_inj.1 e3
  obtain ⟨b4, e4, _, _⟩ := DataW.trod_int Try.underlying3 g4
  obtain rfl : v4 = _ := List.singleton_inj.1 e4
  obtain ⟨b5, e5, _, _⟩ := DataW.trod_int Try.underlying3 g5
  obtain rfl : v5 = _ := List.singleton_inj.1 e5
  obtain ⟨b6, e6, _, z6⟩ := DataW.trod_string Try.underlying9 g6
  obtain rfl : v6 = _ := List.singleton_inj.1 e6
  obtain ⟨b7, e7, _, z7⟩ := DataW.trod_string Try.underlying9 g7
  obtain rfl : v7 = _ := List.singleton_inj.1 e7
  obtain ⟨b8, e8, _, z8⟩ := DataW.trod_string Try.underlying9 g8
  obtain rfl : v8 = _ := List.singleton_inj.1 e8
  rcases open_strings Try.underlying22 Try.underlying9 (by kernel_rfl) g9 with ⟨hcs, _⟩ | ⟨x, l, c, zs, hcs, _, hl, hm, hz, _, hcell, hwf⟩
  · obtain rfl : v9 = _ := List.singleton_inj.1 hcs
    exact ⟨⟨b0, b1, b2, b3, b4, b5, b6, b7, b8, []⟩, .slice none 0 0, rfl, ⟨⟨none, 0, rfl, .inl rfl⟩, z8, z6, z7, Nat.zero_le _, fun t ht => by cases ht⟩, ⟨none, 0, 0, rfl, Nat.le_refl _⟩⟩
  · obtain rfl : v9 = _ := List.singleton_inj.1 hcs
    exact ⟨⟨b0, b1, b2, b3, b4, b5, b6, b7, b8, zs.take l⟩, .slice (some x) l c, rfl, ⟨strs_of hl (by simpa using hz) hcell, z8, z6, z7, by have h1 := List.length_take_le l zs; simp at hz; show (zs.take l).length ≤ maxLen; omega, fun t ht => hwf t (List.mem_of_mem_take ht)⟩, ⟨some x, l, c, rfl, hl⟩⟩
end Go.Proofs.Ytelpkniockhjgaa

/-! ### RecY -/
namespace Go.Proofs.Ytelpkniockhjgaa
open Go.RowKit Go.Deep
set_option linter.unusedVariables false
set_option linter.unusedSimpArgs false

namespace Cr
theorem bytesRow_size (s : ByteArray) (cap : Nat) : s.size ≤ (bytesRow s cap).size := by
  unfold bytesRow
  rw [Array.size_append, Array.size_map]
  exact Nat.le_add_right _ _
theorem rowW_unfrozen (W : World) (t : ByteArray) (j : Nat) (hj : j < t.size) : (rowW W t).frozen? ⟨W.heap.size, j, none⟩ = false := by
  have hs := bytesRow_size t (grownCap W t.size 0 5)
  have h := World.frozen?_alloc_mark W.drew (bytesRow t (grownCap W t.size 0 5)) 5 (bytesRow t (grownCap W t.size 0 5)).size ((bytesRow t (grownCap W t.size 0 5)).size + 1) j
  have hd : decide ((bytesRow t (grownCap W t.size 0 5)).size ≤ j) = false := by rw [decide_eq_false_iff_not]; omega
  rw [hd, Bool.false_and] at h
  exact h

theorem turned_conv (W : World) (X : ByteArray) (i z K : Nat) (hi : i < X.size) (hz : z < 256) :
    (convert 33 9 (.slice (some ⟨W.heap.size, 0, none⟩) X.size K)).run Try.prog ((rowW W X).setCell ⟨W.heap.size, i, none⟩ (.int .u8 z)) =
      .ok (.string ⟨(X.data.toList.set i (UInt8.ofNat z)).toArray⟩) ((rowW W X).setCell ⟨W.heap.size, i, none⟩ (.int .u8 z)) := by
  have hl : (X.data.toList.set i (UInt8.ofNat z)).length = X.size := by rw [List.length_set]; rfl
  have h := run_convert_bytes_back (P := Try.prog) ((rowW W X).setCell ⟨W.heap.size, i, none⟩ (.int .u8 z)) 33 9 5 ⟨W.heap.size, 0, none⟩ K (X.data.toList.set i (UInt8.ofNat z)) Try.underlying33 Try.underlying5 Try.underlying9 fun j hj => by
    rw [add_none, Nat.zero_add]
    have hj' : j < X.size := by rw [← hl]; exact hj
    by_cases hji : j = i
    · subst hji
      rw [World.cell?_setCell_same _ _ _ (rowW_cell W X j hj'), List.getElem_set_self, UInt8.toNat_ofNat', Nat.mod_eq_of_lt (by omega)]
    · rw [World.cell?_setCell_other _ _ _ _ (by simp [hji]), rowW_cell W X j hj', List.getElem_set_ne (Ne.symm hji)]
      rfl
  rw [hl] at h
  exact h

theorem xor_turns {x y : Nat} (hx : x < 256) (hy : y < 256) (h0 : y ≠ 0) : UInt8.ofNat (x ^^^ y) ≠ UInt8.ofNat x := by
  intro h
  have h1 := congrArg UInt8.toNat h
  have hl : x ^^^ y < 256 := Nat.xor_lt_two_pow (n := 8) hx hy
  rw [UInt8.toNat_ofNat', UInt8.toNat_ofNat', Nat.mod_eq_of_lt (by omega), Nat.mod_eq_of_lt (by omega)] at h1
  apply h0
  exact xor_right (c := x) (by rw [h1, Nat.xor_zero])

end Cr
theorem one_msg (w : World) (a : MsgM) (va : Value) : ∀ k p, [(a, va)][k]? = some p → ∀ i, i < 10 → (w.alloc (.cells #[.int .i64 a.kind, .int .i64 a.queue, .int .i64 a.due, .int .i64 a.retry, .int .i64 a.ref, .int .i64 a.born, .string a.topic, .string a.tag, .string a.body, va] 24)).cell? ⟨w.heap.size, k * 10 + i, none⟩ = (p.1.cells p.2)[i]? := by
  intro k p hp i hi
  have hc : ∀ j, (w.alloc (.cells #[.int .i64 a.kind, .int .i64 a.queue, .int .i64 a.due, .int .i64 a.retry, .int .i64 a.ref, .int .i64 a.born, .string a.topic, .string a.tag, .string a.body, va] 24)).cell? ⟨w.heap.size, j, none⟩ = (#[.int .i64 a.kind, .int .i64 a.queue, .int .i64 a.due, .int .i64 a.retry, .int .i64 a.ref, .int .i64 a.born, .string a.topic, .string a.tag, .string a.body, va] : Array Value)[j]? := Box.cell (Box.new w _)
  rw [hc]
  match k, hp with
  | 0, hp =>
    simp only [List.getElem?_cons_zero, Option.some.injEq] at hp
    subst hp
    rw [Nat.zero_mul, Nat.zero_add]
    rfl
  | k + 1, hp => simp at hp
/-- Where a byte is turned the record is another, or none. -/
theorem turned_get {m m' : MsgM} {X Y : ByteArray} {n x : Int} {i : Nat} {c : UInt8} (hp : putO m = some X.data.toList) (hY : Y = ⟨(X.data.toList.set i c).toArray⟩) (hi : i < X.size) (hc : c ≠ X[i]) (hg : getS Y = (m', n, x)) :
    (x ≠ 0 ∧ n = 0) ∨ (x = 0 ∧ sameB m' m = false ∧ m'.keys.length ≤ 10000) := by
  by_cases hx : x = 0
  · subst hx
    refine .inr ⟨rfl, Bool.eq_false_iff.2 fun e => ?_, ?_⟩
    · obtain ⟨h1, h2, h3⟩ := get_back hg
      rw [sameB_iff.1 e, hp] at h3
      have hl : Y.data.toList.length = X.data.toList.length := by rw [hY]; simp
      have h4 : X.data.toList = Y.data.toList.take n.toNat := Option.some.inj h3
      have h5 : n.toNat = X.data.toList.length ∨ Y.data.toList.length ≤ n.toNat := by
        have := congrArg List.length h4
        rw [List.length_take] at this
        omega
      have h6 : X.data.toList = Y.data.toList := by
        rw [h4]
        rw [List.take_of_length_le (by omega)]
      have h7 : X.data.toList = X.data.toList.set i c := by rw [hY] at h6; exact h6
      have hil : i < X.data.toList.length := by simpa using hi
      have h8 : X.data.toList[i]? = some c := by rw [h7, List.getElem?_set_self (by simpa using hil)]
      rw [List.getElem?_eq_getElem hil] at h8
      exact hc ((Option.some.inj h8).symm.trans rfl)
    · obtain ⟨_, _, h3⟩ := get_back hg
      have hr := (put_get h3 []).2.2.2.2
      by_cases hk : m'.kind = 0
      · rw [bare_eq hr hk]
        show ([] : List ByteArray).length ≤ 10000
        simp
      · exact Nat.le_trans (right_bd hr hk).many (by decide)
  · refine .inl ⟨hx, ?_⟩
    unfold getS at hg
    by_cases h1 : (lenS Y).2 ≠ 0
    · rw [if_pos h1] at hg
      simp only [Prod.mk.injEq] at hg
      exact hg.2.1.symm
    · rw [if_neg h1] at hg
      by_cases h2 : (openedS (Y.extract 0 (lenS Y).1.toNat)).2 ≠ 0
      · rw [if_pos h2] at hg
        simp only [Prod.mk.injEq] at hg
        exact hg.2.1.symm
      · rw [if_neg h2] at hg
        simp only [Prod.mk.injEq] at hg
        exact absurd hg.2.2.symm hx
theorem i64_or_nat (a b : Nat) (ha : a < 9223372036854775808) (hb : b < 9223372036854775808) : bits .or .i64 (a : Int) (b : Int) = ((a ||| b : Nat) : Int) := by
  have hx : a ||| b < 2 ^ 63 := Nat.or_lt_two_pow (by omega) (by omega)
  show IntKind.i64.wrap ((BitVec.ofInt 64 (a : Int) ||| BitVec.ofInt 64 (b : Int)).toNat : Int) = _
  rw [BitVec.toNat_or, Cr.ofInt_i64 a ha, Cr.ofInt_i64 b hb, IntKind.wrap_i64]
  omega
theorem put_frame {m : MsgM} {l : List UInt8} (h : putO m = some l) : ∃ k rest, l = frameB k rest := by
  unfold putO at h
  by_cases hr : rightB m = true
  · rw [if_pos hr] at h
    by_cases hk : m.kind = 0
    · rw [if_neg (by simpa using hk)] at h
      by_cases h3 : 3 ≤ m.body.size
      · rw [if_pos h3] at h
        exact ⟨_, _, (Option.some.inj h).symm⟩
      · rw [if_neg h3] at h
        cases h
    · rw [if_pos hk] at h
      exact ⟨_, _, (Option.some.inj h).symm⟩
  · rw [if_neg hr] at h
    cases h
theorem told_or {m : MsgM} {X : ByteArray} (h : putO m = some X.data.toList) (h4 : X.size ≤ 1100) (h1 : 1 < X.size) (h2 : 2 < X.size) :
    (bits BinOp.or IntKind.i64 (IntKind.i64.wrap (IntKind.i64.wrap (X[1].toNat : Int) * 256)) (IntKind.i64.wrap (X[2].toNat : Int)) == (X.size : Int)) = true := by
  obtain ⟨k, rest, e⟩ := put_frame h
  have hl : X.data.toList.length = X.size := rfl
  obtain ⟨n, hn⟩ : ∃ n, n = 3 + rest.length := ⟨_, rfl⟩
  have hs : X.size = n := by rw [← hl, e, frameB_length, hn]
  have g1 : X.data.toList[1]? = some (UInt8.ofNat (n / 256)) := by rw [e]; unfold frameB; rw [hn]; simp [Oc.numB]
  have g2 : X.data.toList[2]? = some (UInt8.ofNat n) := by rw [e]; unfold frameB; rw [hn]; simp [Oc.numB]
  rw [List.getElem?_eq_getElem (by rw [hl]; exact h1)] at g1
  rw [List.getElem?_eq_getElem (by rw [hl]; exact h2)] at g2
  have e1 : X[1] = UInt8.ofNat (n / 256) := Option.some.inj g1
  have e2 : X[2] = UInt8.ofNat n := Option.some.inj g2
  rw [e1, e2, UInt8.toNat_ofNat', UInt8.toNat_ofNat', hs]
  obtain ⟨p, hp⟩ : ∃ p, p = n / 256 % 2 ^ 8 := ⟨_, rfl⟩
  obtain ⟨q, hq⟩ : ∃ q, q = n % 2 ^ 8 := ⟨_, rfl⟩
  rw [← hp, ← hq]
  have hpq : p * 256 + q = n := by omega
  have hp256 : p < 256 := by omega
  have hq256 : q < 256 := by omega
  rw [IntKind.wrap_i64 (p : Int), IntKind.wrap_i64 (q : Int), IntKind.wrap_i64]
  rw [show (((p : Int) + 9223372036854775808) % 18446744073709551616 - 9223372036854775808) = (p : Int) by omega, show (((q : Int) + 9223372036854775808) % 18446744073709551616 - 9223372036854775808) = (q : Int) by omega,
    show (((p : Int) * 256 + 9223372036854775808) % 18446744073709551616 - 9223372036854775808) = ((p * 256 : Nat) : Int) by omega, i64_or_nat _ _ (by omega) (by omega)]
  have := Nat.shiftLeft_add_eq_or_of_lt (i := 8) (b := q) (by omega) p
  rw [Nat.shiftLeft_eq] at this
  rw [show (p * 256 ||| q) = p * 256 + q from this.symm, hpq]
  simp
set_option maxHeartbeats 8000000 in
set_option maxRecDepth 100000 in
theorem law_turned (a : MsgM) (va : Value) (at' y : Nat) (w : World) (ha : Sized w (a, va)) (ca : CapOk va) (hat : at' < 65536) (hy : y < 256) :
    Calls Try.prog 3 #[a.val va, .int .u16 at', .int .u8 y] w (IsTrue w) := by
  obtain ⟨W0, hW0⟩ : ∃ W, W = w.alloc (.cells #[.int .i64 a.kind, .int .i64 a.queue, .int .i64 a.due, .int .i64 a.retry, .int .i64 a.ref, .int .i64 a.born, .string a.topic, .string a.tag, .string a.body, va] 24) := ⟨_, rfl⟩
  have hl0 : Below w.heap.size w W0 := by
    rw [hW0]
    exact (Below.refl w.heap.size w).alloc (Nat.le_refl _) _
  have hba : Box W0 w.heap.size #[.int .i64 a.kind, .int .i64 a.queue, .int .i64 a.due, .int .i64 a.retry, .int .i64 a.ref, .int .i64 a.born, .string a.topic, .string a.tag, .string a.body, va] := by rw [hW0]; exact Box.new w _
  have HBL := Lib.hid (Below.refl W0.heap.size W0)
  have HBA := Lib.hid hba
  have HL0 := Lib.hid hl0
  have HW0 := Lib.hid hW0
  have HA := Lib.hid ha
  have HCA := Lib.hid ca
  have HSA : Hid (∀ W, Below W0.heap.size W0 W → Sized W (a, va)) := Lib.hid fun W h => ⟨HA.out.strs.below (HL0.out.trans (h.mono HL0.out.size)) (Nat.le_refl _), HA.out.body, HA.out.topic, HA.out.tag, HA.out.many, HA.out.keys⟩
  have k0 := hba.cell
  clear hl0 hba hW0 ha ca
  unfold MsgM.val
  unfold MsgM.cells at *
  go_enter Try.func3, Try.ntmps3
  go_wp2_with fail
  rw [← HW0.out]
  refine (law_awake _).mono ?_
  rintro e w1 ⟨rfl, hb1⟩
  have hbl1 := below_step3 (a := W0) (by repeat (first | exact HBL.out | with_reducible refine below_alloc3 ?_ _ | with_reducible refine below_drewN ?_ _ | with_reducible refine below_drew2 ?_)) hb1
  clear k0
  have k0 := (HBA.out.below hbl1 HBA.out.lt).cell
  have HBL := Lib.hid hbl1
  clear hb1 hbl1

  go_wp2_with fail
  obtain ⟨W1, hW1⟩ : ∃ W, W = w1.alloc (.cells #[.int .i64 a.kind, .int .i64 a.queue, .int .i64 a.due, .int .i64 a.retry, .int .i64 a.ref, .int .i64 a.born, .string a.topic, .string a.tag, .string a.body, va] 24) := ⟨_, rfl⟩
  rw [← hW1]
  have hbl1 : Below W0.heap.size W0 W1 := by rw [hW1]; exact below_alloc HBL.out _
  have HG := Lib.hid (great_any [(a, va)] w1.heap.size 1 W1 (by rw [hW1, World.size_alloc]; omega) rfl (by decide) (by
    intro p hp
    simp only [List.mem_cons, List.not_mem_nil, or_false] at hp
    rcases hp with rfl
    exact HSA.out _ hbl1) (by rw [hW1]; exact one_msg w1 a va))
  clear k0 HBL
  have k0 := (HBA.out.below hbl1 HBA.out.lt).cell
  have HBL := Lib.hid hbl1
  clear hbl1 hW1
  refine HG.out.mono ?_
  rintro e w2 ⟨z, rfl, hf, hb2⟩
  have hbl2 := below_step3 (a := W0) (by repeat (first | exact HBL.out | with_reducible refine below_alloc3 ?_ _ | with_reducible refine below_drewN ?_ _ | with_reducible refine below_drew2 ?_)) hb2
  clear k0
  have k0 := (HBA.out.below hbl2 HBA.out.lt).cell
  have HBL := Lib.hid hbl2
  clear hb2 hbl2

  clear HG
  cases z
  case true =>
    go_wp2_with fail
    go_ret
    exact ⟨rfl, HL0.out.trans (HBL.out.mono HL0.out.size)⟩
  have HFA := Lib.hid (hf rfl (a, va) (by simp))
  dsimp only at HFA
  clear hf
  by_cases hy0 : y = 0
  · subst hy0
    go_wp2_with fail
    go_ret
    exact ⟨rfl, HL0.out.trans (HBL.out.mono HL0.out.size)⟩
  have hyn : ((y : Int) == 0) = false := by simp; omega
  have HY0 := Lib.hid hy0
  clear hy0
  go_wp2_with fail
  refine (new_at _).mono ?_
  rintro e w3 ⟨g, rfl, ht3, hg3, hb3⟩
  have hbl3 := below_step3 (a := W0) (by repeat (first | exact HBL.out | with_reducible refine below_alloc3 ?_ _ | with_reducible refine below_drewN ?_ _ | with_reducible refine below_drew2 ?_)) hb3
  clear k0
  have HBA3 := Lib.hid (HBA.out.below hbl3 HBA.out.lt)
  have HSA3 : Hid (∀ W, Below w3.heap.size w3 W → Sized W (a, va)) := Lib.hid fun W h => HSA.out W (below_step3 hbl3 h)
  have HTB : Hid (∀ W, Below w3.heap.size w3 W → Cr.Tab W g) := Lib.hid fun W h => ht3.below h hg3
  have HL3 := Lib.hid (HL0.out.trans (hbl3.mono HL0.out.size))
  clear HBL HBA HSA HL0 HW0 HA hb3 hbl3 ht3 hg3
  have HBL := Lib.hid (Below.refl w3.heap.size w3)
  have HBA := HBA3
  clear HBA3
  have k0 := HBA.out.cell
  obtain ⟨X, xa, hpa, hxa⟩ := put_at a va g w3 HSA3.out HFA.out HCA.out HTB.out
  unfold MsgM.val MsgM.cells at hpa
  have HXA := Lib.hid hxa
  have HPA := Lib.hid hpa
  clear hxa hpa
  go_wp2_with fail
  (with_reducible refine (HPA.out _ ?_).mono ?_)
  · repeat (first | exact HBL.out | with_reducible refine below_alloc3 ?_ _ | with_reducible refine below_drewN ?_ _ | with_reducible refine below_drew2 ?_)
  rintro e w5 ⟨rfl, hb5⟩
  have hbl5 := below_step3 (a := w3) (by repeat (first | exact HBL.out | with_reducible refine below_alloc3 ?_ _ | with_reducible refine below_drewN ?_ _ | with_reducible refine below_drew2 ?_)) hb5
  clear k0
  have k0 := (HBA.out.below hbl5 HBA.out.lt).cell
  have HBL := Lib.hid hbl5
  clear hb5 hbl5

  clear HPA
  rcases HXA.out with rfl | ⟨rfl, hX⟩
  · go_wp2_with fail
    go_ret
    exact ⟨rfl, HL3.out.trans (HBL.out.mono HL3.out.size)⟩
  clear HXA
  obtain ⟨_, hx3, hx4, htold, _⟩ := put_get hX []
  have hXs : X.data.toList.length = X.size := rfl
  rw [hXs] at hx3 hx4 htold
  replace htold : toldN X = X.size := htold
  have hx1n : 1 < X.size := Nat.lt_of_lt_of_le (by decide) hx3
  have hx2n : 2 < X.size := Nat.lt_of_lt_of_le (by decide) hx3
  have HTOR := Lib.hid (told_or hX hx4 hx1n hx2n)
  obtain ⟨i, hi0⟩ : ∃ i, i = at' % X.size := ⟨_, rfl⟩
  have hi : i < X.size := by rw [hi0]; exact Nat.mod_lt _ (by omega)
  have hrem : (at' : Int) % (X.size : Int) = (i : Int) := by rw [hi0]; exact (Int.natCast_emod ..).symm
  have hrem2 : (at' : Int).tmod (X.size : Int) = (i : Int) := by rw [← hrem]; exact Int.tmod_eq_emod_of_nonneg (by omega)
  have hcv := Cr.rowW_conv w5 X
  have hce := Cr.rowW_cell w5 X i hi
  have hfr := Cr.rowW_unfrozen w5 X i hi
  obtain ⟨K, hK⟩ : ∃ K, K = grownCap w5 X.size 0 5 := ⟨_, rfl⟩
  obtain ⟨R, hR⟩ : ∃ R, R = Cr.rowW w5 X := ⟨_, rfl⟩
  rw [← hK, ← hR] at hcv
  rw [← hR] at hce hfr
  have hxy := u8_xor_nat X[i].toNat y X[i].toNat_lt (by omega)
  unfold by8 at hce
  have hz : X[i].toNat ^^^ y < 256 := Nat.xor_lt_two_pow (n := 8) X[i].toNat_lt (by omega)
  have htc := Cr.turned_conv w5 X i _ K hi hz
  have hne := Cr.xor_turns X[i].toNat_lt (show y < 256 by omega) HY0.out
  rw [UInt8.ofNat_toNat] at hne
  obtain ⟨Y, hY⟩ : ∃ Y : ByteArray, Y = ⟨(X.data.toList.set i (UInt8.ofNat (X[i].toNat ^^^ y))).toArray⟩ := ⟨_, rfl⟩
  have hYs : Y.size = X.size := by rw [hY]; show (X.data.toList.set i _).length = _; rw [List.length_set]; rfl
  obtain ⟨m', n', x', hgs⟩ : ∃ m' n' x', getS Y = (m', n', x') := ⟨_, _, _, rfl⟩
  have HTG := Lib.hid (turned_get hX hY hi hne hgs)
  have HTO := Lib.hid htold
  rw [← hY, ← hR] at htc
  have hbr : Below w5.heap.size w5 (R.setCell ⟨w5.heap.size, i, none⟩ (.int .u8 (X[i].toNat ^^^ y : Nat))) := by rw [hR]; exact (Cr.rowW_below w5 X).setCell (Nat.le_refl _) _
  have hblr := below_step3 HBL.out hbr
  have HGT := Lib.hid (get_any g Y m' n' x' _ (HTB.out _ hblr) (by omega) hgs)
  have HXR := Lib.hid hx3
  clear k0 HBL
  have k0 := (HBA.out.below hblr HBA.out.lt).cell
  have HBL := Lib.hid hblr
  have hx0 : (0 : Int) < X.size := by omega
  have hiI : (i : Int) < X.size := by omega
  clear hX hXs htold hi0 hK hR hz hne hY hYs hgs hbr hblr
  go_wp2_with fail
  refine HGT.out.mono ?_
  rintro e w6 ⟨vm, rfl, hsm, hcm, hb6⟩
  obtain ⟨ma, ml, mc, rfl, hcl⟩ := hcm
  have hbl6 := below_step3 (a := w3) (by repeat (first | exact HBL.out | with_reducible refine below_alloc3 ?_ _ | with_reducible refine below_drewN ?_ _ | with_reducible refine below_drew2 ?_)) hb6
  have HS6 : Hid (Strs w6 0 (.slice ma ml mc) m'.keys) := Lib.hid hsm.zero
  clear k0 HBL
  have HBL := Lib.hid hbl6
  clear hb6 hbl6 hsm HGT hcv hce hfr hxy htc hrem hrem2
  unfold MsgM.val MsgM.cells
  have HB6 := Lib.hid (Below.refl w6.heap.size w6)
  go_upto_region 12 with fail
  obtain ⟨W7, hW7⟩ : ∃ W, W = w6.alloc (.cells #[.int .i64 m'.kind, .int .i64 m'.queue, .int .i64 m'.due, .int .i64 m'.retry, .int .i64 m'.ref, .int .i64 m'.born, .string m'.topic, .string m'.tag, .string m'.body, .slice ma ml mc] 24) := ⟨_, rfl⟩
  rw [← hW7]
  have hb7 : Below w6.heap.size w6 W7 := by rw [hW7]; exact below_alloc3 HB6.out _
  have hbx7 : Box W7 w6.heap.size #[.int .i64 m'.kind, .int .i64 m'.queue, .int .i64 m'.due, .int .i64 m'.retry, .int .i64 m'.ref, .int .i64 m'.born, .string m'.topic, .string m'.tag, .string m'.body, .slice ma ml mc] := by rw [hW7]; exact Box.new _ _
  have km := hbx7.cell
  have hbl7 := below_step3 HBL.out hb7
  have k0 := (HBA.out.below hbl7 HBA.out.lt).cell
  clear HB6
  have HB6 := Lib.hid hb7
  have HB7 := Lib.hid hbl7
  have HBX7 := Lib.hid hbx7
  have HBX0 := Lib.hid (HBA.out.below hbl7 HBA.out.lt)
  clear hb7 hbx7 hbl7 hW7
  have hx1 : (1 : Int) < X.size := by omega
  have hx2 : (2 : Int) < X.size := by omega
  have hor := HTOR.out
  rcases HTG.out with ⟨hx', rfl⟩ | ⟨rfl, hsb, hmk⟩
  · have hq1 : (x' == 0) = false := by simpa using hx'
    have hq2 : (x' != 0) = true := by simpa using hx'
    clear hx' km k0
    go_quiet (fail)
    go_wp2_with fail
    go_ret
    exact ⟨rfl, HL3.out.trans ((below_drewN HB7.out _).mono HL3.out.size)⟩
  · have HSM : Hid (∀ W, Below w6.heap.size w6 W → Calls Try.prog 9 #[.agg #[.int .i64 m'.kind, .int .i64 m'.queue, .int .i64 m'.due, .int .i64 m'.retry, .int .i64 m'.ref, .int .i64 m'.born, .string m'.topic, .string m'.tag, .string m'.body, .slice ma ml mc], .agg #[.int .i64 a.kind, .int .i64 a.queue, .int .i64 a.due, .int .i64 a.retry, .int .i64 a.ref, .int .i64 a.born, .string a.topic, .string a.tag, .string a.body, va]] W (RSameTo false W)) := Lib.hid fun W h => same_any m' a (.slice ma ml mc) va false W (HS6.out.below h (Nat.le_refl _)) (HSA3.out W (below_step3 HBL.out h)).strs hmk (Nat.le_trans HFA.out.many (by decide)) hsb
    clear hsb hmk
    go_still_tail 17, (by kernel_rfl)
    change wpList _ _ _ _ _ W7.drew
    have hd7 : Below W7.heap.size W7 W7.drew := (Below.refl _ _).drew
    obtain ⟨V, hV⟩ : ∃ V, V = W7.drew := ⟨_, rfl⟩
    have HB6V : Hid (Below w6.heap.size w6 V) := Lib.hid (by rw [hV]; exact HB6.out.drew)
    have HB7V : Hid (Below w3.heap.size w3 V) := Lib.hid (by rw [hV]; exact HB7.out.drew)
    rw [← hV]
    clear k0 km hd7 hV
    go_wp2_with fail
    ((with_reducible refine (HSM.out _ HB6V.out).mono ?_))
    rintro e w8 ⟨rfl, hb8⟩
    have HB8 := Lib.hid (below_step3 HB7V.out hb8)
    clear hb8
    go_wp2_with fail
    go_ret
    exact ⟨rfl, HL3.out.trans (HB8.out.mono HL3.out.size)⟩
end Go.Proofs.Ytelpkniockhjgaa

/-! ### RecZ -/
namespace Go.Proofs.Ytelpkniockhjgaa
open Go.RowKit Go.Deep

theorem walk_RecTurned (a : MsgM) (va : Value) (x y : Int) (w : World) (sa : Sized w (a, va)) (ca : CapOk va) (hx : (Lit.int .u16 x).wf = true) (hy : (Lit.int .u8 y).wf = true) :
    Calls Try.prog 3 #[a.val va, .int .u16 x, .int .u8 y] w fun e w' => e = .returned (.bool true) ∧ Below w.heap.size w w' := by
  have h1 : 0 ≤ x ∧ x < 65536 := by
    simp [Lit.wf, IntKind.min, IntKind.max, IntKind.signed, IntKind.bits] at hx
    omega
  have h2 : 0 ≤ y ∧ y < 256 := by
    simp [Lit.wf, IntKind.min, IntKind.max, IntKind.signed, IntKind.bits] at hy
    omega
  obtain ⟨n, rfl⟩ := Int.eq_ofNat_of_zero_le h1.1
  obtain ⟨k, rfl⟩ := Int.eq_ofNat_of_zero_le h2.1
  exact law_turned a va n k w sa ca (by omega) (by omega)
end Go.Proofs.Ytelpkniockhjgaa
