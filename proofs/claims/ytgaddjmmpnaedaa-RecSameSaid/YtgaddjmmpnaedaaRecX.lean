/-
  RecSame, as the frame asks for it.
-/
import Derived.Test.YtgaddjmmpnaedaaRecW
import Derived.Test.YtgaddjmmpnaedaaOpenMsg
namespace Go.Proofs.Ytgaddjmmpnaedaa
open Go.RowKit Go.Deep

theorem walk_RecSame (a : MsgM) (va : Value) (b : MsgM) (vb : Value) (n : Int) (w : World) {P : Prop} (sa : Sized w (a, va)) (ca : CapOk va) (sb : Sized w (b, vb)) (cb : CapOk vb) (hn : P) :
    Calls Try.prog 3 #[a.val va, b.val vb, .int .i64 n] w fun e w' => e = .returned (.bool true) ∧ Below w.heap.size w w' := law_same a b va vb n w sa sb ca cb
end Go.Proofs.Ytgaddjmmpnaedaa
