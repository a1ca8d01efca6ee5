/- A part. -/
import Derived.LaidMore
import Derived.Stop.Joined
import Derived.Test.YtajmeimjaapagaaGreatDoorDor39
set_option linter.unusedVariables false
set_option linter.unusedSimpArgs false
namespace Go.Proofs.YtajmeimjaapagaaGreatDoor
open Go.RowKit
theorem gTab : Tryz.prog.globalNamed "internal/strconv.uint64pow10" = some 3 := by kernel_rfl
theorem tTab:(Tryz.prog.globals[3]?).map (·.type)=some 326:=by kernel_rfl
theorem cTab:Tryz.prog.cellsOf 326=20:=by kernel_rfl
theorem cWord:Tryz.prog.cellsOf 221=1:=by kernel_rfl
theorem tab_of_laid {W:World} (h:laidMetH Tryz.prog Rows.deqNoneRow.laid W):Tab10 W:=by
 rw [MakeChecks.laidMetH_plain _ _ _ (by kernel_rfl)] at h
 obtain ⟨ps,⟨g0,t0,cs0,f0,p0,q0,hg0,ht0,hv0,hd0,⟨g1,t1,cs1,f1,p1,q1,hg1,ht1,hv1,hd1,⟨g2,t2,cs2,f2,p2,q2,hg2,ht2,hv2,hd2,_,_⟩,_⟩,_⟩,_⟩:=h
 obtain rfl:=Option.some.inj (gTab.symm.trans hg2)
 obtain rfl:=Option.some.inj (tTab.symm.trans ht2)
 unfold Tab10 Lib.TabIs
 rw [hv2,←Lib.cells_of_tab (zs:=Lib.pow10Tab) (k:=.u64) Tryz.underlying326 Tryz.underlying221 cWord cTab hd2]
end Go.Proofs.YtajmeimjaapagaaGreatDoor
