/- A part. -/
import Derived.Test.YtajmeimjaapagaaGreatDoorDno41
set_option linter.unusedVariables false
set_option linter.unusedSimpArgs false
namespace Go.Proofs.YtajmeimjaapagaaGreatDoor
open Go.RowKit Go.Deep
def MsgM.texts (m:MsgM):List ByteArray:=m.topic :: m.tag :: m.body :: m.keys
theorem msg_eq {a b:MsgM} (h1:a.nums=b.nums) (h2:a.texts=b.texts):a=b:=by
 obtain ⟨a1,a2,a3,a4,a5,a6,a7,a8,a9,a10⟩:=a
 obtain ⟨b1,b2,b3,b4,b5,b6,b7,b8,b9,b10⟩:=b
 simp only [MsgM.nums,MsgM.texts,List.cons.injEq,and_true] at h1 h2
 obtain ⟨rfl,rfl,rfl,rfl,rfl,rfl⟩:=h1
 obtain ⟨rfl,rfl,rfl,rfl⟩:=h2
 rfl
def sameB (a b:MsgM):Bool:=decide (a.nums=b.nums) && decide (a.texts=b.texts)
theorem sameB_iff {a b:MsgM}:sameB a b=true↔a=b:=by
 unfold sameB
 rw [Bool.and_eq_true,decide_eq_true_eq,decide_eq_true_eq]
 exact ⟨fun h=>msg_eq h.1 h.2,fun h=>by rw [h];exact ⟨rfl,rfl⟩⟩
theorem owns_set {w:World} {base b:Nat} {e:TypeId} {n k:Nat} {v:Value} {xs:List Value} (h:w.ownsRow base e n v k xs) (hb:b<base) (i:Nat) (u:Value):(w.setCell ⟨b,i,none⟩ u).ownsRow base e n v k xs:=by
 obtain ⟨h1,h2⟩:=h
 refine ⟨h1,?_⟩
 rcases h2 with h2|⟨g,cap,cur,rfl,hg,hh,h3⟩
 ·exact .inl h2
 ·exact .inr ⟨g,cap,cur,rfl,hg,(Below.heap_setCell _ _ _ _ (by show g≠b;omega)).trans hh,h3⟩
theorem owns_set10 {w:World} {base P:Nat} {e:TypeId} {n k:Nat} {v:Value} {xs:List Value} (h:w.ownsRow base e n v k xs) (hb:P<base) (c0 c1 c2 c3 c4 c5 c6 c7 c8 c9:Value):(set10 w P c0 c1 c2 c3 c4 c5 c6 c7 c8 c9).ownsRow base e n v k xs:=
 owns_set (owns_set (owns_set (owns_set (owns_set (owns_set (owns_set (owns_set (owns_set (owns_set h hb _ _) hb _ _) hb _ _) hb _ _) hb _ _) hb _ _) hb _ _) hb _ _) hb _ _) hb _ _
theorem owns_form {w:World} {base:Nat} {e:TypeId} {n k:Nat} {v:Value} {xs:List Value} (h:w.ownsRow base e n v k xs):∃ a l c,v = .slice a l c:=by
 rcases h.2 with ⟨rfl,_⟩|⟨g,cap,cur,rfl,_⟩
 ·exact ⟨_,_,_,rfl⟩
 ·exact ⟨_,_,_,rfl⟩
def CopyTo (m:MsgM) (w:World) (e:Ending) (w':World):Prop:=∃ vk,e = .returned (m.val vk)∧w'.ownsRow (w.heap.size+2) 9 1 vk m.keys.length (m.keys.map Value.string)∧Below w.heap.size w w'
set_option maxHeartbeats 2000000 in
set_option maxRecDepth 100000 in
theorem copy_any (m:MsgM) (vk:Value) (w:World) (hk:Strs w 0 vk m.keys) (hn:m.keys.length≤10000):Calls Tryz.prog 47 #[m.val vk] w (CopyTo m w):=by
 obtain ⟨W1,hW1⟩:∃ W,W=(w.alloc (.cells #[.int .i64 m.kind,.int .i64 m.queue,.int .i64 m.due,.int .i64 m.retry,.int .i64 m.ref,.int .i64 m.born,.string m.topic,.string m.tag,.string m.body,vk] 36)).alloc (.cells #[.int .i64 0,.int .i64 0,.int .i64 0,.int .i64 0,.int .i64 0,.int .i64 0,.string ⟨#[]⟩,.string ⟨#[]⟩,.string ⟨#[]⟩,.slice none 0 0] 36):=⟨_,rfl⟩
 have hb1:Below w.heap.size w W1:=by
  rw [hW1]
  exact ((Below.refl w.heap.size w).alloc (Nat.le_refl _) _).alloc (by simp only [World.size_alloc];omega) _
 have hbm:Box W1 w.heap.size #[.int .i64 m.kind,.int .i64 m.queue,.int .i64 m.due,.int .i64 m.retry,.int .i64 m.ref,.int .i64 m.born,.string m.topic,.string m.tag,.string m.body,vk]:=by rw [hW1];exact (Box.new w _).alloc _
 have hbz:Box W1 (w.heap.size+1) zc:=by
  have:=Box.new (w.alloc (.cells (m.cells vk) 36)) zc
  rw [World.size_alloc] at this
  rw [hW1]
  exact this
 have hz1:W1.heap.size=w.heap.size+2:=by rw [hW1,World.size_alloc,World.size_alloc]
 have hown:W1.ownsRow W1.heap.size 9 1 (.slice none 0 0) 0 []:=⟨rfl,.inl ⟨rfl,rfl⟩⟩
 have hst:=hk.below hb1 (Nat.le_refl _)
 have HOWN:=Lib.hid hown
 have HB1:=Lib.hid hb1
 have HST:=Lib.hid hst
 have HW1:=Lib.hid hW1
 have HBM:=Lib.hid hbm
 have HBZ:=Lib.hid hbz
 have HZ1:=Lib.hid hz1
 clear hb1 hown hst hk hW1 hbm hbz hz1
 unfold MsgM.val
 unfold MsgM.cells at *
 go_enter Tryz.func47,Tryz.ntmps47
 go_wp2_with (at_builtin;rw [←HW1.out];go_must (refine Oc.wpList_append_strs rfl _ _ rfl W1.heap.size _ _ 0 [] m.keys rfl rfl HOWN.out HST.out (by omega) (Nat.le_refl _) ?_))
 intro v1 w4 ho hgr
 have hb4:=below_grown (Below.refl W1.heap.size W1) hgr (Nat.le_refl _)
 rw [HZ1.out] at ho
 replace ho:w4.ownsRow (w.heap.size+2) 9 1 v1 m.keys.length (m.keys.map Value.string):=by simpa using ho
 obtain ⟨a4,l4,c4,rfl⟩:=owns_form ho
 have hm4:=HBM.out.below hb4 HBM.out.lt
 have hz4:=HBZ.out.below hb4 HBZ.out.lt
 have HO:=Lib.hid ho
 have HB4:=Lib.hid (HB1.out.trans (hb4.mono HB1.out.size))
 have HM4:=Lib.hid hm4
 have HZ4:=Lib.hid hz4
 have kc:=hm4.cell
 have kf:=hm4.free
 have zcc:=hz4.cell
 have zf:=hz4.free
 simp only [zc] at zcc
 clear ho hgr hb4 hm4 hz4
 go_wp2_with fail
 obtain ⟨W,hW⟩:∃ W,W=set10 (w4.setCell ⟨w.heap.size,9,none⟩ (.slice a4 l4 c4)) (w.heap.size+1) (.int .i64 m.kind) (.int .i64 m.queue) (.int .i64 m.due) (.int .i64 m.retry) (.int .i64 m.ref) (.int .i64 m.born) (.string m.topic) (.string m.tag) (.string m.body) (.slice a4 l4 c4):=⟨_,rfl⟩
 have hbx:Box W (w.heap.size+1) #[.int .i64 m.kind,.int .i64 m.queue,.int .i64 m.due,.int .i64 m.retry,.int .i64 m.ref,.int .i64 m.born,.string m.topic,.string m.tag,.string m.body,.slice a4 l4 c4]:=by rw [hW];exact box_set10 (HZ4.out.setO (by omega) 9 (.slice a4 l4 c4)) (.int .i64 m.kind) (.int .i64 m.queue) (.int .i64 m.due) (.int .i64 m.retry) (.int .i64 m.ref) (.int .i64 m.born) (.string m.topic) (.string m.tag) (.string m.body) (.slice a4 l4 c4)
 have hbl:Below w.heap.size w W:=by rw [hW];exact below_set10 (HB4.out.setCell (Nat.le_refl _) (.slice a4 l4 c4)) (Nat.le_succ _) (.int .i64 m.kind) (.int .i64 m.queue) (.int .i64 m.due) (.int .i64 m.retry) (.int .i64 m.ref) (.int .i64 m.born) (.string m.topic) (.string m.tag) (.string m.body) (.slice a4 l4 c4)
 have hst:W.ownsRow (w.heap.size+2) 9 1 (.slice a4 l4 c4) m.keys.length (m.keys.map Value.string):=by rw [hW];exact owns_set10 (owns_set HO.out (by omega) 9 (.slice a4 l4 c4)) (by omega) (.int .i64 m.kind) (.int .i64 m.queue) (.int .i64 m.due) (.int .i64 m.retry) (.int .i64 m.ref) (.int .i64 m.born) (.string m.topic) (.string m.tag) (.string m.body) (.slice a4 l4 c4)
 unfold set10 at hW
 rw [←hW]
 have hpm:=Box.cell hbx
 exact bodyPost_ret (v:=m.val (.slice a4 l4 c4)) (by simp [results,Tryz.results47,go_sem,hpm,MsgM.val,MsgM.cells]) rfl ⟨_,rfl,hst,hbl⟩
theorem sameB_no {a b:MsgM} {x:Bool} (hx:sameB a b=x) (h:a≠b):x=false:=by
 rw [←hx]
 exact Bool.eq_false_iff.2 fun e=>h (sameB_iff.1 e)
theorem sameB_keys {a b:MsgM} {x:Bool} (hx:sameB a b=x) (h:a=b↔a.keys=b.keys):decide (a.keys=b.keys)=x:=by
 rw [←hx]
 by_cases e:a.keys=b.keys
 ·rw [decide_eq_true e]
  exact (sameB_iff.2 (h.2 e)).symm
 ·rw [decide_eq_false e]
  exact (Bool.eq_false_iff.2 fun k=>e (h.1 (sameB_iff.1 k))).symm
def RSameTo (x:Bool) (w:World) (e:Ending) (w':World):Prop:=e = .returned (.bool x)∧Below w.heap.size w w'
set_option maxHeartbeats 4000000 in
set_option maxRecDepth 100000 in
theorem rsame_any (a b:MsgM) (va vb:Value) (x:Bool) (w:World) (ha:Strs w 0 va a.keys) (hb:Strs w 0 vb b.keys) (na:a.keys.length≤10000) (nb:b.keys.length≤10000) (hx:sameB a b=x) :
 Calls Tryz.prog 25 #[a.val va,b.val vb] w (RSameTo x w):=by
 obtain ⟨a1,a2,a3,a4,a5,a6,a7,a8,a9,a10⟩:=a
 obtain ⟨b1,b2,b3,b4,b5,b6,b7,b8,b9,b10⟩:=b
 unfold RSameTo
 unfold MsgM.val MsgM.cells
 dsimp only at *
 have hl:∀ c1 c2:Array Value,Below w.heap.size w ((w.alloc (.cells c1 36)).alloc (.cells c2 36)):=fun c1 c2=>((Below.refl w.heap.size w).alloc (Nat.le_refl _) _).alloc (by simp only [World.size_alloc];omega) _
 have HL:=Lib.hid hl
 have HA:=Lib.hid ha
 have HB:=Lib.hid hb
 have NA:=Lib.hid na
 have HX:=Lib.hid hx
 clear hl ha hb na nb hx
 by_cases h1:a1=b1
 case neg=>
  obtain rfl:x=false:=sameB_no HX.out (by intro e;injection e;contradiction)
  have hd:decide (a1=b1)=false:=decide_eq_false h1
  have hq:(a1 == b1)=false:=by simpa using h1
  clear HX HA HB NA h1
  go_enter Tryz.func25,Tryz.ntmps25
  go_wp2_with fail
  go_ret
  exact ⟨rfl,HL.out _ _⟩
 obtain rfl:b1=a1:=h1.symm
 by_cases h2:a2=b2
 case neg=>
  obtain rfl:x=false:=sameB_no HX.out (by intro e;injection e;contradiction)
  have hd:decide (a2=b2)=false:=decide_eq_false h2
  have hq:(a2 == b2)=false:=by simpa using h2
  clear HX HA HB NA h2
  go_enter Tryz.func25,Tryz.ntmps25
  go_wp2_with fail
  go_ret
  exact ⟨rfl,HL.out _ _⟩
 obtain rfl:b2=a2:=h2.symm
 by_cases h3:a3=b3
 case neg=>
  obtain rfl:x=false:=sameB_no HX.out (by intro e;injection e;contradiction)
  have hd:decide (a3=b3)=false:=decide_eq_false h3
  have hq:(a3 == b3)=false:=by simpa using h3
  clear HX HA HB NA h3
  go_enter Tryz.func25,Tryz.ntmps25
  go_wp2_with fail
  go_ret
  exact ⟨rfl,HL.out _ _⟩
 obtain rfl:b3=a3:=h3.symm
 by_cases h4:a4=b4
 case neg=>
  obtain rfl:x=false:=sameB_no HX.out (by intro e;injection e;contradiction)
  have hd:decide (a4=b4)=false:=decide_eq_false h4
  have hq:(a4 == b4)=false:=by simpa using h4
  clear HX HA HB NA h4
  go_enter Tryz.func25,Tryz.ntmps25
  go_wp2_with fail
  go_ret
  exact ⟨rfl,HL.out _ _⟩
 obtain rfl:b4=a4:=h4.symm
 by_cases h5:a5=b5
 case neg=>
  obtain rfl:x=false:=sameB_no HX.out (by intro e;injection e;contradiction)
  have hd:decide (a5=b5)=false:=decide_eq_false h5
  have hq:(a5 == b5)=false:=by simpa using h5
  clear HX HA HB NA h5
  go_enter Tryz.func25,Tryz.ntmps25
  go_wp2_with fail
  go_ret
  exact ⟨rfl,HL.out _ _⟩
 obtain rfl:b5=a5:=h5.symm
 by_cases h6:a6=b6
 case neg=>
  obtain rfl:x=false:=sameB_no HX.out (by intro e;injection e;contradiction)
  have hd:decide (a6=b6)=false:=decide_eq_false h6
  have hq:(a6 == b6)=false:=by simpa using h6
  clear HX HA HB NA h6
  go_enter Tryz.func25,Tryz.ntmps25
  go_wp2_with fail
  go_ret
  exact ⟨rfl,HL.out _ _⟩
 obtain rfl:b6=a6:=h6.symm
 by_cases h7:a7=b7
 case neg=>
  obtain rfl:x=false:=sameB_no HX.out (by intro e;injection e;contradiction)
  have hd:decide (a7=b7)=false:=decide_eq_false h7
  have hne:a7.toList≠b7.toList:=fun h=>h7 (by rw [←ba_toList a7,h,ba_toList b7])
  have hq:(a7.toList == b7.toList)=false:=by simpa using hne
  clear hne
  clear HX HA HB NA h7
  go_enter Tryz.func25,Tryz.ntmps25
  go_wp2_with fail
  go_ret
  exact ⟨rfl,HL.out _ _⟩
 obtain rfl:b7=a7:=h7.symm
 by_cases h8:a8=b8
 case neg=>
  obtain rfl:x=false:=sameB_no HX.out (by intro e;injection e;contradiction)
  have hd:decide (a8=b8)=false:=decide_eq_false h8
  have hne:a8.toList≠b8.toList:=fun h=>h8 (by rw [←ba_toList a8,h,ba_toList b8])
  have hq:(a8.toList == b8.toList)=false:=by simpa using hne
  clear hne
  clear HX HA HB NA h8
  go_enter Tryz.func25,Tryz.ntmps25
  go_wp2_with fail
  go_ret
  exact ⟨rfl,HL.out _ _⟩
 obtain rfl:b8=a8:=h8.symm
 by_cases h9:a9=b9
 case neg=>
  obtain rfl:x=false:=sameB_no HX.out (by intro e;injection e;contradiction)
  have hd:decide (a9=b9)=false:=decide_eq_false h9
  have hne:a9.toList≠b9.toList:=fun h=>h9 (by rw [←ba_toList a9,h,ba_toList b9])
  have hq:(a9.toList == b9.toList)=false:=by simpa using hne
  clear hne
  clear HX HA HB NA h9
  go_enter Tryz.func25,Tryz.ntmps25
  go_wp2_with fail
  go_ret
  exact ⟨rfl,HL.out _ _⟩
 obtain rfl:b9=a9:=h9.symm
 have HD:=Lib.hid (sameB_keys HX.out ⟨fun e=>by rw [e],fun e=>by dsimp only at e;rw [e]⟩)
 go_enter Tryz.func25,Tryz.ntmps25
 go_wp2_with fail
 refine (Oc.same_any va vb a10 b10 _ (HA.out.below (HL.out _ _) (Nat.le_refl _)) (HB.out.below (HL.out _ _) (Nat.le_refl _)) (by have:=NA.out;omega)).mono ?_
 rintro e w' ⟨rfl,k,rfl⟩
 rw [HD.out]
 clear HD HX
 go_wp2_with fail
 go_ret
 exact ⟨rfl,below_drewN (HL.out _ _) _⟩
end Go.Proofs.YtajmeimjaapagaaGreatDoor
