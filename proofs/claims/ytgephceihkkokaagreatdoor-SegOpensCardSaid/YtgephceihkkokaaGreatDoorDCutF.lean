/-
  The contracts of a file's cut, and of lose.
-/
import Derived.Test.YtgephceihkkokaaGreatDoorDSync
namespace Go.Proofs.YtgephceihkkokaaGreatDoor
open Go.RowKit Go.Deep
attribute [local go_sem] fr_opt

/-- b[:n]. -/
theorem slice_cut {w : World} {v : Value} {xs : List UInt8} (h : BytesAt w v xs) (n : Nat) (hn : n ≤ xs.length) :
    ∃ p c, (∀ w2 : World, (Instr.sliceAt 48 v none (some (.int .i64 n)) none).run Tryz.prog w2 = .ok (.slice p n c) w2) ∧ BytesAt w (.slice p n c) (xs.take n) ∧ (Value.slice p n c).ownBlock = v.ownBlock := by
  have hz : ∀ w2 : World, (sizeOf 5).run Tryz.prog w2 = .ok 1 w2 := fun w2 => by kernel_rfl
  rcases h.form with ⟨rfl, rfl⟩ | ⟨g, cap, cur, rfl, hg, h1, h2, h3, h4⟩
  · obtain rfl : n = 0 := by simpa using hn
    exact ⟨none, 0, fun w2 => by kernel_rfl, BytesAt.nil w, rfl⟩
  · refine ⟨some ⟨g, 0, none⟩, cap, fun w2 => ?_, ?_, rfl⟩
    · have hu := run_underlying (w := w2) Tryz.underlying48
      have hc : (0 : Int) ≤ (n : Int) ∧ (n : Int) ≤ (cap : Int) := by omega
      have hc' : n ≤ cap := by omega
      simp [Instr.sliceAt, Instr.slice, hu, Instr.sliceBounds, Instr.sliceBound, asIntOf, hc', hz, Result.andThen, Addr.add]
    · have hl : (xs.take n).length = n := by rw [List.length_take]; omega
      have := BytesAt.mk (xs := xs.take n) hg (by omega) h2 h3 (by rw [hl, List.map_take, ← h4, List.take_take]; congr 1; omega)
      rwa [hl] at this

set_option maxHeartbeats 1000000 in
set_option maxRecDepth 100000 in
theorem cutf_any (e : Ent) (n : Nat) (w : World) (h : EntAt w e) (hi : n ≤ e.f.image.length) (hb : n ≤ e.f.bytes.length) :
    Calls Tryz.prog 67 #[.pointer (some ⟨e.blk, 0, none⟩), .int .i64 n] w fun en w' => en = .returned (.tuple #[]) ∧ FileTo w e ⟨e.f.image.take n, e.f.bytes.take n, e.f.writes⟩ w' := by
  obtain ⟨pi, ci, hsi, hbi, hoi⟩ := slice_cut h.image n hi
  obtain ⟨pb, cb, hsb, hbb, hob⟩ := slice_cut h.bytes n hb
  have hT1 := ent_set_image (w1 := w) h (grownBy_refl _ _) hbi (fun g hg => .inl (hoi ▸ hg))
  have hT2 := ent_set_bytes (w1 := w.setCell ⟨e.blk, 0, none⟩ (.slice pi n ci)) (v' := .slice pb n cb) (ys := e.f.bytes.take n) hT1.at_ (grownBy_refl _ _)
    ((Chg.setCell (S := fun k => k = e.blk) (Chg.refl _ _) (fun _ => rfl) _).bytes hbb (fun g hg hx => (foot_vb e h.apart (hob ▸ hg)).1 hx)) (fun g hg => .inl (hob ▸ hg))
  have hT : Ent.To w e _ ((w.setCell ⟨e.blk, 0, none⟩ (.slice pi n ci)).setCell ⟨e.blk, 1, none⟩ (.slice pb n cb)).drew := (hT1.trans hT2).trans (Ent.To.new (hT1.trans hT2).at_ (Chg.refl _ _).drew)
  obtain ⟨c0, c1, c2, hfz⟩ := h.cells
  have f0 := hfz 0
  have f1 := hfz 1
  have HT := Lib.hid hT
  have HSI := Lib.hid hsi
  have HSB := Lib.hid hsb
  clear hfz h hsi hbi hoi hsb hbb hob hT1 hT2 hT hi hb
  go_enter Tryz.func67, Tryz.ntmps67
  go_wp2_with fail
  refine region_ph (n := 22) 12 [16, 19] rfl rfl (by kernel_rfl) (by kernel_rfl) (by kernel_rfl) (fun i v => match i with | 0 => v = .pointer (some ⟨e.blk, 0, none⟩) | 1 => v = .pointer (some ⟨e.blk, 0, none⟩) | 2 => v = .pointer (some ⟨e.blk, 0, none⟩) | 3 => v = .pointer (some ⟨e.blk, 0, none⟩) | 4 => v = .pointer (some ⟨e.blk, 0, none⟩) | 5 => v = e.vi | 6 => v = .int .i64 n | 7 => v = .slice pi n ci | 8 => v = .pointer (some ⟨e.blk, 0, none⟩) | 9 => v = .pointer (some ⟨e.blk, 0, none⟩) | 10 => v = .pointer (some ⟨e.blk, 1, none⟩) | 11 => v = e.vb | 12 => v = .int .i64 n | 13 => v = .slice pb n cb | 14 => v = .pointer (some ⟨e.blk, 0, none⟩) | 15 => v = .pointer (some ⟨e.blk, 0, none⟩) | 17 => v = .pointer (some ⟨e.blk, 0, none⟩) | 18 => v = .pointer (some ⟨e.blk, 1, none⟩) | _ => True)
    (fun p f w' => match p with | 0 => w.drew = w' | 1 => (w.setCell ⟨e.blk, 0, none⟩ (.slice pi n ci)).drew = w' | _ => ((w.setCell ⟨e.blk, 0, none⟩ (.slice pi n ci)).setCell ⟨e.blk, 1, none⟩ (.slice pb n cb)).drew = w') ?_ ?_ ?_
  · exact rfl
  · simp only [AllAt]
    refine ⟨?_, ?_, ?_, ?_, ?_, ?_, ?_, ?_, ?_, ?_, ?_, ?_, ?_, ?_, ?_, ?_, ?_, ?_, ?_, ?_, trivial⟩
    · refine StepPh.reg rfl (by decide) (fun d hd => by cases hd; decide) ?_
      intro f w' p hG hup hdn hfr hp K hK
      have g0 : f 0 = .pointer (some ⟨e.blk, 0, none⟩) := hfr 0 (by kernel_rfl)
      clear hfr hp hup hdn
      go_simp
      exact hK _ _ rfl hG
    · refine StepPh.reg rfl (by decide) (fun d hd => by cases hd; decide) ?_
      intro f w' p hG hup hdn hfr hp K hK
      have g0 : f 0 = .pointer (some ⟨e.blk, 0, none⟩) := hfr 0 (by kernel_rfl)
      clear hfr hp hup hdn
      go_simp
      exact hK _ _ rfl hG
    · refine StepPh.reg rfl (by decide) (fun d hd => by cases hd; decide) ?_
      intro f w' p hG hup hdn hfr hp K hK
      have g0 : f 0 = .pointer (some ⟨e.blk, 0, none⟩) := hfr 0 (by kernel_rfl)
      clear hfr hp hup hdn
      go_simp
      exact hK _ _ rfl hG
    · refine StepPh.reg rfl (by decide) (fun d hd => by cases hd; decide) ?_
      intro f w' p hG hup hdn hfr hp K hK
      have g6 : f 6 = .pointer (some ⟨e.blk, 0, none⟩) := hp 2 _ 6 rfl rfl (by kernel_rfl)
      clear hfr hp hup hdn
      go_simp
      exact hK _ _ rfl hG
    · refine StepPh.reg rfl (by decide) (fun d hd => by cases hd; decide) ?_
      intro f w' p hG hup hdn hfr hp K hK
      have g7 : f 7 = .pointer (some ⟨e.blk, 0, none⟩) := hp 3 _ 7 rfl rfl (by kernel_rfl)
      clear hfr hp hup hdn
      go_simp
      exact hK _ _ rfl hG
    · refine StepPh.reg rfl (by decide) (fun d hd => by cases hd; decide) ?_
      intro f w' p hG hup hdn hfr hp K hK
      have g8 : f 8 = .pointer (some ⟨e.blk, 0, none⟩) := hp 4 _ 8 rfl rfl (by kernel_rfl)
      obtain rfl : p = 0 := by have := hdn 0 (by decide) (.inl (by kernel_rfl)); omega
      have hGe : w.drew = w' := hG
      subst hGe
      clear hfr hp hup hdn
      go_simp
      exact hK _ _ rfl hG
    · refine StepPh.reg rfl (by decide) (fun d hd => by cases hd; decide) ?_
      intro f w' p hG hup hdn hfr hp K hK
      have g1 : f 1 = .int .i64 n := hfr 1 (by kernel_rfl)
      clear hfr hp hup hdn
      go_simp
      exact hK _ _ rfl hG
    · refine StepPh.reg rfl (by decide) (fun d hd => by cases hd; decide) ?_
      intro f w' p hG hup hdn hfr hp K hK
      have g9 : f 9 = e.vi := hp 5 _ 9 rfl rfl (by kernel_rfl)
      have g10 : f 10 = .int .i64 n := hp 6 _ 10 rfl rfl (by kernel_rfl)
      clear hfr hp hup hdn
      unfold Oper.wp
      simp [execOp, fr_eval, g9, g10, HSI.out, Result.andThen]
      exact hK _ _ rfl hG
    · refine StepPh.reg rfl (by decide) (fun d hd => by cases hd; decide) ?_
      intro f w' p hG hup hdn hfr hp K hK
      have g0 : f 0 = .pointer (some ⟨e.blk, 0, none⟩) := hfr 0 (by kernel_rfl)
      clear hfr hp hup hdn
      go_simp
      exact hK _ _ rfl hG
    · refine StepPh.reg rfl (by decide) (fun d hd => by cases hd; decide) ?_
      intro f w' p hG hup hdn hfr hp K hK
      have g12 : f 12 = .pointer (some ⟨e.blk, 0, none⟩) := hp 8 _ 12 rfl rfl (by kernel_rfl)
      clear hfr hp hup hdn
      go_simp
      exact hK _ _ rfl hG
    · refine StepPh.reg rfl (by decide) (fun d hd => by cases hd; decide) ?_
      intro f w' p hG hup hdn hfr hp K hK
      have g13 : f 13 = .pointer (some ⟨e.blk, 0, none⟩) := hp 9 _ 13 rfl rfl (by kernel_rfl)
      clear hfr hp hup hdn
      go_simp
      exact hK _ _ rfl hG
    · refine StepPh.reg rfl (by decide) (fun d hd => by cases hd; decide) ?_
      intro f w' p hG hup hdn hfr hp K hK
      have g14 : f 14 = .pointer (some ⟨e.blk, 1, none⟩) := hp 10 _ 14 rfl rfl (by kernel_rfl)
      have hpp : p = 0 ∨ p = 1 := by have := hdn 1 (by decide) (.inl (by kernel_rfl)); omega
      clear hfr hp hup hdn
      rcases hpp with rfl | rfl
      · have hGe : w.drew = w' := hG
        subst hGe
        go_simp
        exact hK _ _ rfl hG
      · have hGe : (w.setCell ⟨e.blk, 0, none⟩ (.slice pi n ci)).drew = w' := hG
        subst hGe
        go_simp
        exact hK _ _ rfl hG
    · refine StepPh.reg rfl (by decide) (fun d hd => by cases hd; decide) ?_
      intro f w' p hG hup hdn hfr hp K hK
      have g1 : f 1 = .int .i64 n := hfr 1 (by kernel_rfl)
      clear hfr hp hup hdn
      go_simp
      exact hK _ _ rfl hG
    · refine StepPh.reg rfl (by decide) (fun d hd => by cases hd; decide) ?_
      intro f w' p hG hup hdn hfr hp K hK
      have g15 : f 15 = e.vb := hp 11 _ 15 rfl rfl (by kernel_rfl)
      have g16 : f 16 = .int .i64 n := hp 12 _ 16 rfl rfl (by kernel_rfl)
      clear hfr hp hup hdn
      unfold Oper.wp
      simp [execOp, fr_eval, g15, g16, HSB.out, Result.andThen]
      exact hK _ _ rfl hG
    · refine StepPh.reg rfl (by decide) (fun d hd => by cases hd; decide) ?_
      intro f w' p hG hup hdn hfr hp K hK
      have g4 : f 4 = .pointer (some ⟨e.blk, 0, none⟩) := hp 0 _ 4 rfl rfl (by kernel_rfl)
      clear hfr hp hup hdn
      go_simp
      exact hK _ _ rfl hG
    · refine StepPh.reg rfl (by decide) (fun d hd => by cases hd; decide) ?_
      intro f w' p hG hup hdn hfr hp K hK
      have g18 : f 18 = .pointer (some ⟨e.blk, 0, none⟩) := hp 14 _ 18 rfl rfl (by kernel_rfl)
      clear hfr hp hup hdn
      go_simp
      exact hK _ _ rfl hG
    · refine StepPh.wr 0 rfl (by decide) rfl (fun d hd => by cases hd) (fun j hj => by omega) ?_
      intro f w' hG hfr hp K hK
      have g19 : f 19 = .pointer (some ⟨e.blk, 0, none⟩) := hp 15 _ 19 rfl rfl (by kernel_rfl)
      have g11 : f 11 = .slice pi n ci := hp 7 _ 11 rfl rfl (by kernel_rfl)
      clear hfr hp
      have hGe : w.drew = w' := hG
      subst hGe
      go_simp
      exact hK undef _ (fun h => by cases h) rfl
    · refine StepPh.reg rfl (by decide) (fun d hd => by cases hd; decide) ?_
      intro f w' p hG hup hdn hfr hp K hK
      have g5 : f 5 = .pointer (some ⟨e.blk, 0, none⟩) := hp 1 _ 5 rfl rfl (by kernel_rfl)
      clear hfr hp hup hdn
      go_simp
      exact hK _ _ rfl hG
    · refine StepPh.reg rfl (by decide) (fun d hd => by cases hd; decide) ?_
      intro f w' p hG hup hdn hfr hp K hK
      have g20 : f 20 = .pointer (some ⟨e.blk, 0, none⟩) := hp 17 _ 20 rfl rfl (by kernel_rfl)
      clear hfr hp hup hdn
      go_simp
      exact hK _ _ rfl hG
    · refine StepPh.wr 1 rfl (by decide) rfl (fun d hd => by cases hd) (fun j hj => by (obtain rfl : j = 0 := (by omega)); kernel_rfl) ?_
      intro f w' hG hfr hp K hK
      have g21 : f 21 = .pointer (some ⟨e.blk, 1, none⟩) := hp 18 _ 21 rfl rfl (by kernel_rfl)
      have g17 : f 17 = .slice pb n cb := hp 13 _ 17 rfl rfl (by kernel_rfl)
      clear hfr hp
      have hGe : (w.setCell ⟨e.blk, 0, none⟩ (.slice pi n ci)).drew = w' := hG
      subst hGe
      go_simp
      exact hK undef _ (fun h => by cases h) rfl
  · intro f w1 hG hfr hR
    obtain rfl := hG
    clear hfr hR
    refine bodyPost_end (P := Tryz.prog) (results_none (fn := Tryz.f67) rfl _ _ _) rfl ⟨rfl, _, ?_, HT.out⟩
    rfl
end Go.Proofs.YtgephceihkkokaaGreatDoor
