/- A part. -/
import Derived.Test.YtnemlgfldfedpaaGreatDoorTcr32
set_option linter.unusedVariables false
set_option linter.unusedSimpArgs false
namespace Go.Proofs.YtnemlgfldfedpaaGreatDoor
open Go.RowKit Go.Deep
def MsgM.texts (m:MsgM):List ByteArray:=m.topic :: m.tag :: m.body :: m.keys
theorem msg_eq {a b:MsgM} (h1:a.nums=b.nums) (h2:a.texts=b.texts):a=b:=by
 obtain ⟨a1,a2,a3,a4,a5,a6,a7,a8,a9,a10⟩:=a
 obtain ⟨b1,b2,b3,b4,b5,b6,b7,b8,b9,b10⟩:=b
 simp only [MsgM.nums,MsgM.texts,List.cons.injEq,and_true] at h1 h2
 obtain ⟨rfl,rfl,rfl,rfl,rfl,rfl⟩:=h1
 obtain ⟨rfl,rfl,rfl,rfl⟩:=h2
 rfl
def sameB (a b:MsgM):Bool:=decide (a.nums=b.nums) && decide (a.texts=b.texts)
theorem sameB_iff {a b:MsgM}:sameB a b=true↔a=b:=by
 unfold sameB
 rw [Bool.and_eq_true,decide_eq_true_eq,decide_eq_true_eq]
 exact ⟨fun h=>msg_eq h.1 h.2,fun h=>by rw [h];exact ⟨rfl,rfl⟩⟩
theorem below_drew2 {B:Nat} {a w:World} (h:Below B a w):Below B a w.drew:=h.drew
theorem sameB_no {a b:MsgM} {x:Bool} (hx:sameB a b=x) (h:a≠b):x=false:=by
 rw [←hx]
 exact Bool.eq_false_iff.2 fun e=>h (sameB_iff.1 e)
theorem sameB_keys {a b:MsgM} {x:Bool} (hx:sameB a b=x) (h:a=b↔a.keys=b.keys):decide (a.keys=b.keys)=x:=by
 rw [←hx]
 by_cases e:a.keys=b.keys
 ·rw [decide_eq_true e]
  exact (sameB_iff.2 (h.2 e)).symm
 ·rw [decide_eq_false e]
  exact (Bool.eq_false_iff.2 fun k=>e (h.1 (sameB_iff.1 k))).symm
def RSameTo (x:Bool) (w:World) (e:Ending) (w':World):Prop:=e = .returned (.bool x)∧Below w.heap.size w w'
set_option maxHeartbeats 4000000 in
set_option maxRecDepth 100000 in
theorem rsame_any (a b:MsgM) (va vb:Value) (x:Bool) (w:World) (ha:Strs w 0 va a.keys) (hb:Strs w 0 vb b.keys) (na:a.keys.length≤10000) (nb:b.keys.length≤10000) (hx:sameB a b=x) :
 Calls Tryz.prog 20 #[a.val va,b.val vb] w (RSameTo x w):=by
 obtain ⟨a1,a2,a3,a4,a5,a6,a7,a8,a9,a10⟩:=a
 obtain ⟨b1,b2,b3,b4,b5,b6,b7,b8,b9,b10⟩:=b
 unfold RSameTo
 unfold MsgM.val MsgM.cells
 dsimp only at *
 have hl:∀ c1 c2:Array Value,Below w.heap.size w ((w.alloc (.cells c1 30)).alloc (.cells c2 30)):=fun c1 c2=>((Below.refl w.heap.size w).alloc (Nat.le_refl _) _).alloc (by simp only [World.size_alloc];omega) _
 have HL:=Lib.hid hl
 have HA:=Lib.hid ha
 have HB:=Lib.hid hb
 have NA:=Lib.hid na
 have HX:=Lib.hid hx
 clear hl ha hb na nb hx
 by_cases h1:a1=b1
 case neg=>
  obtain rfl:x=false:=sameB_no HX.out (by intro e;injection e;contradiction)
  have hd:decide (a1=b1)=false:=decide_eq_false h1
  have hq:(a1 == b1)=false:=by simpa using h1
  clear HX HA HB NA h1
  go_enter Tryz.func20,Tryz.ntmps20
  go_wp2_with fail
  go_ret
  exact ⟨rfl,HL.out _ _⟩
 obtain rfl:b1=a1:=h1.symm
 by_cases h2:a2=b2
 case neg=>
  obtain rfl:x=false:=sameB_no HX.out (by intro e;injection e;contradiction)
  have hd:decide (a2=b2)=false:=decide_eq_false h2
  have hq:(a2 == b2)=false:=by simpa using h2
  clear HX HA HB NA h2
  go_enter Tryz.func20,Tryz.ntmps20
  go_wp2_with fail
  go_ret
  exact ⟨rfl,HL.out _ _⟩
 obtain rfl:b2=a2:=h2.symm
 by_cases h3:a3=b3
 case neg=>
  obtain rfl:x=false:=sameB_no HX.out (by intro e;injection e;contradiction)
  have hd:decide (a3=b3)=false:=decide_eq_false h3
  have hq:(a3 == b3)=false:=by simpa using h3
  clear HX HA HB NA h3
  go_enter Tryz.func20,Tryz.ntmps20
  go_wp2_with fail
  go_ret
  exact ⟨rfl,HL.out _ _⟩
 obtain rfl:b3=a3:=h3.symm
 by_cases h4:a4=b4
 case neg=>
  obtain rfl:x=false:=sameB_no HX.out (by intro e;injection e;contradiction)
  have hd:decide (a4=b4)=false:=decide_eq_false h4
  have hq:(a4 == b4)=false:=by simpa using h4
  clear HX HA HB NA h4
  go_enter Tryz.func20,Tryz.ntmps20
  go_wp2_with fail
  go_ret
  exact ⟨rfl,HL.out _ _⟩
 obtain rfl:b4=a4:=h4.symm
 by_cases h5:a5=b5
 case neg=>
  obtain rfl:x=false:=sameB_no HX.out (by intro e;injection e;contradiction)
  have hd:decide (a5=b5)=false:=decide_eq_false h5
  have hq:(a5 == b5)=false:=by simpa using h5
  clear HX HA HB NA h5
  go_enter Tryz.func20,Tryz.ntmps20
  go_wp2_with fail
  go_ret
  exact ⟨rfl,HL.out _ _⟩
 obtain rfl:b5=a5:=h5.symm
 by_cases h6:a6=b6
 case neg=>
  obtain rfl:x=false:=sameB_no HX.out (by intro e;injection e;contradiction)
  have hd:decide (a6=b6)=false:=decide_eq_false h6
  have hq:(a6 == b6)=false:=by simpa using h6
  clear HX HA HB NA h6
  go_enter Tryz.func20,Tryz.ntmps20
  go_wp2_with fail
  go_ret
  exact ⟨rfl,HL.out _ _⟩
 obtain rfl:b6=a6:=h6.symm
 by_cases h7:a7=b7
 case neg=>
  obtain rfl:x=false:=sameB_no HX.out (by intro e;injection e;contradiction)
  have hd:decide (a7=b7)=false:=decide_eq_false h7
  have hne:a7.toList≠b7.toList:=fun h=>h7 (by rw [←ba_toList a7,h,ba_toList b7])
  have hq:(a7.toList == b7.toList)=false:=by simpa using hne
  clear hne
  clear HX HA HB NA h7
  go_enter Tryz.func20,Tryz.ntmps20
  go_wp2_with fail
  go_ret
  exact ⟨rfl,HL.out _ _⟩
 obtain rfl:b7=a7:=h7.symm
 by_cases h8:a8=b8
 case neg=>
  obtain rfl:x=false:=sameB_no HX.out (by intro e;injection e;contradiction)
  have hd:decide (a8=b8)=false:=decide_eq_false h8
  have hne:a8.toList≠b8.toList:=fun h=>h8 (by rw [←ba_toList a8,h,ba_toList b8])
  have hq:(a8.toList == b8.toList)=false:=by simpa using hne
  clear hne
  clear HX HA HB NA h8
  go_enter Tryz.func20,Tryz.ntmps20
  go_wp2_with fail
  go_ret
  exact ⟨rfl,HL.out _ _⟩
 obtain rfl:b8=a8:=h8.symm
 by_cases h9:a9=b9
 case neg=>
  obtain rfl:x=false:=sameB_no HX.out (by intro e;injection e;contradiction)
  have hd:decide (a9=b9)=false:=decide_eq_false h9
  have hne:a9.toList≠b9.toList:=fun h=>h9 (by rw [←ba_toList a9,h,ba_toList b9])
  have hq:(a9.toList == b9.toList)=false:=by simpa using hne
  clear hne
  clear HX HA HB NA h9
  go_enter Tryz.func20,Tryz.ntmps20
  go_wp2_with fail
  go_ret
  exact ⟨rfl,HL.out _ _⟩
 obtain rfl:b9=a9:=h9.symm
 have HD:=Lib.hid (sameB_keys HX.out ⟨fun e=>by rw [e],fun e=>by dsimp only at e;rw [e]⟩)
 go_enter Tryz.func20,Tryz.ntmps20
 go_wp2_with fail
 refine (Oc.same_any va vb a10 b10 _ (HA.out.below (HL.out _ _) (Nat.le_refl _)) (HB.out.below (HL.out _ _) (Nat.le_refl _)) (by have:=NA.out;omega)).mono ?_
 rintro e w' ⟨rfl,k,rfl⟩
 rw [HD.out]
 clear HD HX
 go_wp2_with fail
 go_ret
 exact ⟨rfl,below_drewN (HL.out _ _) _⟩
end Go.Proofs.YtnemlgfldfedpaaGreatDoor
