/- A part. -/
import Derived.Test.YtnemlgfldfedpaaGreatDoorTcr35
import Derived.Test.YtnemlgfldfedpaaGreatDoorTcr45
set_option linter.unusedVariables false
set_option linter.unusedSimpArgs false
namespace Go.Proofs.YtnemlgfldfedpaaGreatDoor
open Go.RowKit Go.Deep
def costR (b:Nat) (M:MsgM):Nat:=
 if rightB M=true∧M.kind≠0 then (if ((putO M).getD []).length=1024 - b % 1024∨((putO M).getD []).length+3≤1024 - b % 1024 then ((putO M).getD []).length else 1024 - b % 1024+((putO M).getD []).length) else 0
set_option maxHeartbeats 1000000 in
set_option maxRecDepth 100000 in
theorem rcost_any {w:World} {rb:Nat} {B:ByteArray} {begin:Int} {vI vL:Value} {ids:List Int} (h:RefC w rb B begin vI vL ids) (hB:B.size≤100000000) (M:MsgM) (vk:Value) (hks:Strs w 0 vk M.keys) (hsd:Sound M) :
 Calls Tryz.prog 10 #[.pointer (some ⟨rb,0,none⟩),M.val vk] w fun e w'=>e = .returned (.int .i64 (costR B.size M:Nat))∧Below w.heap.size w w':=by
 obtain ⟨ka,kc,hvk⟩:=hks.form
 subst hvk
 obtain ⟨x,hx⟩:∃ x,x=rightB M:=⟨_,rfl⟩
 obtain ⟨P,hP⟩:∃ P:ByteArray,P=⟨((putO M).getD []).toArray⟩:=⟨_,rfl⟩
 obtain ⟨r,hr⟩:∃ r:Nat,r=costR B.size M:=⟨_,rfl⟩
 have HS:Hid (∀ W,Below w.heap.size w W→Strs W 0 (.slice ka M.keys.length kc) M.keys):=Lib.hid (fun W hw=>hks.below hw (Nat.le_refl _))
 have HC:Hid (∀ W,Below w.heap.size w W→RefC W rb B begin vI vL ids):=Lib.hid (fun W hw=>h.new (Chg.of_below hw))
 obtain ⟨m1,m2,m3,m4,m5,m6,m7,m8,m9,m10⟩:=M
 have HRR:Hid (∀ W,Below w.heap.size w W→Calls Tryz.prog 30 #[.agg #[.int .i64 m1,.int .i64 m2,.int .i64 m3,.int .i64 m4,.int .i64 m5,.int .i64 m6,.string m7,.string m8,.string m9,.slice ka m10.length kc]] W (BoolTo x W)):=Lib.hid fun W hw=>rright_any ⟨m1,m2,m3,m4,m5,m6,m7,m8,m9,m10⟩ _ x W (HS.out W hw) hsd hx.symm
 have HRP:Hid (∀ W,Below w.heap.size w W→x=true→Calls Tryz.prog 31 #[.agg #[.int .i64 m1,.int .i64 m2,.int .i64 m3,.int .i64 m4,.int .i64 m5,.int .i64 m6,.string m7,.string m8,.string m9,.slice ka m10.length kc]] W (StrTo P W)):=Lib.hid fun W hw hxt=>by rw [hP];exact rput_any ⟨m1,m2,m3,m4,m5,m6,m7,m8,m9,m10⟩ _ W (HS.out W hw) (hx.symm.trans hxt)
 obtain ⟨W0,hW0⟩:∃ W,W=w.alloc (.cells #[.int .i64 m1,.int .i64 m2,.int .i64 m3,.int .i64 m4,.int .i64 m5,.int .i64 m6,.string m7,.string m8,.string m9,.slice ka m10.length kc] 30):=⟨_,rfl⟩
 have HB0:Hid (Below w.heap.size w W0):=Lib.hid (hW0▸(Below.refl _ _).alloc (Nat.le_refl _) _)
 have HX0:Hid (Box W0 w.heap.size #[.int .i64 m1,.int .i64 m2,.int .i64 m3,.int .i64 m4,.int .i64 m5,.int .i64 m6,.string m7,.string m8,.string m9,.slice ka m10.length kc]):=Lib.hid (hW0▸Box.new w _)
 have HW0:=Lib.hid hW0
 obtain ⟨kl,hkl⟩:∃ l,l=m10.length:=⟨_,rfl⟩
 obtain ⟨p,hp⟩:∃ p,p=P.size:=⟨_,rfl⟩
 have hpl:p=((putO ⟨m1,m2,m3,m4,m5,m6,m7,m8,m9,m10⟩).getD []).length:=by rw [hp,hP,sizeL]
 have hp11:p≤1100:=by
  rw [hpl]
  cases ho:putO ⟨m1,m2,m3,m4,m5,m6,m7,m8,m9,m10⟩ with
  | none=>simp
  | some bs=>exact (put_get ho []).2.2.1
 have hrv:r=if x=true∧m1≠0 then (if p=1024 - B.size % 1024∨p+3≤1024 - B.size % 1024 then p else 1024 - B.size % 1024+p) else 0:=by
  rw [hr,hx,hpl]
  rfl
 rw [←hr]
 unfold MsgM.val MsgM.cells
 dsimp only
 rw [←hkl] at HX0 HW0 HRR HRP ⊢
 have HRV:=Lib.hid hrv
 have HPS:=Lib.hid hp
 clear h hks hsd hx hP hr HS hW0 hkl hp hpl hrv
 go_enter Tryz.func10,Tryz.ntmps10
 go_upto_region 1 with fail
 rw [←HW0.out]
 have hxm:=HX0.out.cell
 have k1:W0.cell? ⟨w.heap.size,0,none⟩=some (.int .i64 m1):=by rw [HW0.out];simp
 cases x
 ·have hr0:r=0:=by rw [HRV.out];simp
  subst hr0
  go_wp2_with fail
  refine (HRR.out W0 HB0.out).mono ?_
  rintro e w1 ⟨rfl,hb1⟩
  have HB1:=Lib.hid (HB0.out.trans (hb1.mono HB0.out.size))
  clear hb1
  go_wp2_with fail
  go_ret
  exact ⟨rfl,HB1.out⟩
 ·by_cases hm:m1=0
  ·have hr0:r=0:=by rw [HRV.out];simp [hm]
   subst hr0
   subst hm
   go_wp2_with fail
   refine (HRR.out W0 HB0.out).mono ?_
   rintro e w1 ⟨rfl,hb1⟩
   have k2:=(hb1.cell (p:=⟨w.heap.size,0,none⟩) HX0.out.lt).trans k1
   have HB1:=Lib.hid (HB0.out.trans (hb1.mono HB0.out.size))
   clear hb1
   go_wp2_with fail
   go_ret
   exact ⟨rfl,HB1.out⟩
  ·have hm0:(m1 == 0)=false:=by simpa using hm
   obtain ⟨bm,hbm⟩:∃ bm,bm=B.size % 1024:=⟨_,rfl⟩
   have hbl:bm<1024:=by omega
   obtain ⟨bz,hbz⟩:∃ bz,bz=B.size:=⟨_,rfl⟩
   have htm:(bz:Int).tmod 1024=(bm:Int):=by rw [Int.tmod_eq_emod_of_nonneg (by omega)];omega
   have hrv:r=if p=1024 - bm∨p+3≤1024 - bm then p else 1024 - bm+p:=by
    rw [HRV.out,←hbm,if_pos ⟨rfl,hm⟩]
   have HRV2:=Lib.hid hrv
   have HBZ:=Lib.hid hbz
   have HM:=Lib.hid hm
   clear hrv hbm hbz hm
   go_wp2_with fail
   refine (HRR.out W0 HB0.out).mono ?_
   rintro e w1 ⟨rfl,hb1⟩
   have k2:=(hb1.cell (p:=⟨w.heap.size,0,none⟩) HX0.out.lt).trans k1
   have HX1:=Lib.hid (HX0.out.below hb1 HX0.out.lt)
   have HB1:=Lib.hid (HB0.out.trans (hb1.mono HB0.out.size))
   have hxm1:=HX1.out.cell
   clear hb1 hxm k1
   go_wp2_with fail
   refine (HRP.out w1 HB1.out (by first|rfl|trivial)).mono ?_
   rintro e w2 ⟨rfl,hb2⟩
   have HB2:=Lib.hid (HB1.out.trans (hb2.mono HB1.out.size))
   have c0:=(HC.out w2 HB2.out).cell.1
   have hps:((P.size:Nat):Int)=(p:Int):=by rw [HPS.out]
   have hbs:((B.size:Nat):Int)=(bz:Int):=by rw [HBZ.out]
   clear hb2 k2 hxm1
   by_cases h1:p+bm=1024
   ·have hr1:(r:Int)=1024 - (bm:Int):=by rw [HRV2.out,if_pos (.inl (by omega))];omega
    have q1:((p:Int) == 1024 - (bm:Int))=true:=by simp;omega
    have HR1:=Lib.hid hr1
    clear hr1 h1
    go_wp2_with fail
    go_ret
    refine ⟨?_,HB2.out⟩
    rw [HR1.out]
    first|rfl|(have:=of_decide_eq_true (p:=(p:Int)=1024 - (bm:Int)) (by simpa using q1);rw [←this];rfl)
   ·by_cases h2:p+3+bm≤1024
    ·have hr1:r=p:=by rw [HRV2.out,if_pos (.inr (by omega))]
     subst hr1
     have q1:((r:Int) == 1024 - (bm:Int))=false:=by simp;omega
     have q2:decide ((r:Int)+3≤1024 - (bm:Int))=true:=by simp;omega
     go_wp2_with fail
     go_ret
     exact ⟨rfl,HB2.out⟩
    ·have hr1:(r:Int)=1024 - (bm:Int)+(p:Int):=by rw [HRV2.out,if_neg (by omega)];omega
     have q1:((p:Int) == 1024 - (bm:Int))=false:=by simp;omega
     have q2:decide ((p:Int)+3≤1024 - (bm:Int))=false:=by simp;omega
     have HR1:=Lib.hid hr1
     clear hr1
     go_wp2_with fail
     go_ret
     exact ⟨by rw [HR1.out];rfl,HB2.out⟩
end Go.Proofs.YtnemlgfldfedpaaGreatDoor
