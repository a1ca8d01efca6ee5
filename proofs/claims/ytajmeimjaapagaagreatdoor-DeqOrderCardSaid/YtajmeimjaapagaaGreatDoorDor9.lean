/- A part. -/
import Derived.Lib.MinMax
import Derived.Test.YtajmeimjaapagaaGreatDoorDor6
set_option linter.unusedVariables false
set_option linter.unusedSimpArgs false
namespace Go.Proofs.YtajmeimjaapagaaGreatDoor
open Go.RowKit Go.Deep
theorem slot_any (n:Int) (w:World) (h0:0≤n):Calls Tryz.prog 37 #[.int .i64 n] w fun e w'=>e = .returned (.int .i64 (n % 16))∧w=w':=by
 have ht:Int.tmod n 16=n % 16:=Int.tmod_eq_emod_of_nonneg h0
 have hm:max n 0=n:=by omega
 have HT:=Lib.hid ht
 clear ht
 go_enter Tryz.func37,Tryz.ntmps37
 go_wp2
 go_ret
 exact ⟨rfl,rfl⟩
end Go.Proofs.YtajmeimjaapagaaGreatDoor
