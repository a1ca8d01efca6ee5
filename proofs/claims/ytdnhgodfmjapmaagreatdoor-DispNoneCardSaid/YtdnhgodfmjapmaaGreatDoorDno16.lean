/- A part. -/
import Derived.Test.YtdnhgodfmjapmaaGreatDoorDno11
set_option linter.unusedVariables false
set_option linter.unusedSimpArgs false
namespace Go.Proofs.YtdnhgodfmjapmaaGreatDoor.Cr
open Go.RowKit Go.Deep
theorem info_u8 : (Tryz.prog.info? 5).map (·.size) = some 1 := by kernel_rfl
theorem run_part_u8 (w : World) (cs : Array Value) (i : Nat) (v : Value) (h : cs[i]? = some v) : (part 5 cs i).run Tryz.prog w = .ok v w := by
  have hu : Tryz.prog.underlying 5 = some (.int .u8) := Tryz.underlying5
  have hagg : (isAgg 5).run Tryz.prog w = .ok false w := by
    unfold isAgg
    rw [Sem.run_bind, run_underlying hu w]
    rfl
  simp [part, Sem.run_bind, hagg, h]
theorem size_u8 (w : World) : (sizeOf 5).run Tryz.prog w = .ok 1 w := by
  have h := info_u8
  cases hq : Tryz.prog.info? 5 with
  | none => simp [hq] at h
  | some i =>
    have hs : i.size = 1 := by simpa [hq] using h
    simp [sizeOf, typeInfo, hq, hs]
theorem eq4 (w : World) (y0 y1 y2 y3 x0 x1 x2 x3 : Int) :
    (Op.equalIn 10000 237 (.agg #[.int .u8 y0, .int .u8 y1, .int .u8 y2, .int .u8 y3]) (.agg #[.int .u8 x0, .int .u8 x1, .int .u8 x2, .int .u8 x3])).run Tryz.prog w = .ok (y0 == x0 && (y1 == x1 && (y2 == x2 && y3 == x3))) w := by
  have hu : Tryz.prog.underlying 237 = some (.array 4 5) := Tryz.underlying237
  have hu5 : Tryz.prog.underlying 5 = some (.int .u8) := Tryz.underlying5
  show (Op.equalIn (9999 + 1) _ _ _).run _ _ = _
  have he : ∀ a b : Int, (Op.equalIn 9999 5 (.int .u8 a) (.int .u8 b)).run Tryz.prog w = .ok (a == b) w := fun a b => run_equalIn_int w 9998 5 .u8 .u8 a b hu5
  rw [Op.equalIn]
  simp only [Sem.run_bind, run_underlying hu, Result.andThen_ok, size_u8]
  simp [Std.Legacy.Range.forIn_eq_forIn_range', Std.Legacy.Range.size, List.range', run_part_u8, he]
  by_cases h0 : y0 = x0 <;> by_cases h1 : y1 = x1 <;> by_cases h2 : y2 = x2 <;> by_cases h3 : y3 = x3 <;> simp [h0, h1, h2, h3]
end Go.Proofs.YtdnhgodfmjapmaaGreatDoor.Cr
