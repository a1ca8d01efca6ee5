/- A part. -/
import Derived.Test.YtajmeimjaapagaaGreatDoorDor16
import Derived.Test.YtajmeimjaapagaaGreatDoorDor6
import Derived.Test.YtajmeimjaapagaaGreatDoorDor29
set_option linter.unusedVariables false
set_option linter.unusedSimpArgs false
namespace Go.Proofs.YtajmeimjaapagaaGreatDoor
open Go.RowKit Go.Deep
theorem bcell {W w1:World} {B:Nat} (hb:Below B W w1):(∀ b o,b<B→w1.cell? ⟨b,o,none⟩=W.cell? ⟨b,o,none⟩)∧(∀ b o,b<B→w1.frozen? ⟨b,o,none⟩=W.frozen? ⟨b,o,none⟩):=
 ⟨fun b o h=>hb.cell (p:=⟨b,o,none⟩) h,fun b o h=>hb.frozen (p:=⟨b,o,none⟩) h⟩
theorem cell_new (w:World) (cs:Array Value) (T:TypeId) (i:Nat) (v:Value) (h:cs[i]? = some v):(w.alloc (.cells cs T)).cell? ⟨w.heap.size,i,none⟩=some v:=by
 unfold World.cell?
 simp only [heap_alloc_new]
 exact h
def memB (s:ByteArray) (ts:List ByteArray):Bool:=ts.any fun t=>decide (t=s)
theorem memB_iff {s:ByteArray} {ts:List ByteArray}:memB s ts=true↔s∈ts:=by
 unfold memB
 rw [List.any_eq_true]
 constructor
 ·rintro ⟨t,ht,h⟩
  rw [←of_decide_eq_true h]
  exact ht
 ·exact fun h=>⟨s,h,decide_eq_true rfl⟩
theorem memB_no {s:ByteArray} {ts:List ByteArray} (h:¬ s∈ts):memB s ts=false:=by
 rw [←Bool.not_eq_true,memB_iff]
 exact h
structure MsgM where
 kind:Int
 queue:Int
 due:Int
 retry:Int
 ref:Int
 born:Int
 topic:ByteArray
 tag:ByteArray
 body:ByteArray
 keys:List ByteArray
def MsgM.cells (m:MsgM) (vk:Value):Array Value:=#[.int .i64 m.kind,.int .i64 m.queue,.int .i64 m.due,.int .i64 m.retry,.int .i64 m.ref,.int .i64 m.born,.string m.topic,.string m.tag,.string m.body,vk]
def MsgM.val (m:MsgM) (vk:Value):Value:=.agg (m.cells vk)
def allIn (a b:Int) (zs:List Int):Bool:=zs.all fun x=>decide (a≤x) && decide (x≤b)
theorem allIn_yes {a b:Int} {zs:List Int} (h:∀ j,j<zs.length→a≤zs.getD j 0∧zs.getD j 0≤b):allIn a b zs=true:=by
 unfold allIn
 rw [List.all_eq_true]
 intro x hx
 obtain ⟨j,hj,rfl⟩:=List.mem_iff_getElem.1 hx
 have:=h j hj
 rw [List.getD_eq_getElem?_getD,List.getElem?_eq_getElem hj] at this
 simpa using this
theorem allIn_no {a b:Int} {zs:List Int} {j:Nat} (hj:j<zs.length) (h:zs.getD j 0<a∨b<zs.getD j 0):allIn a b zs=false:=by
 rw [←Bool.not_eq_true]
 intro ht
 unfold allIn at ht
 rw [List.all_eq_true] at ht
 rw [List.getD_eq_getElem?_getD,List.getElem?_eq_getElem hj] at h
 have:=ht _ (List.getElem_mem hj)
 simp at this h
 omega
set_option maxHeartbeats 400000 in
theorem range_any (p q:Nat) (a b:Int) (v:Value) (zs:List Int) (x:Bool) (w:World) (hv:Ints w v zs) (hl:zs.length≤1000000) (hp:w.cell? ⟨p,0,none⟩=some (.int .i64 a)) (hq:w.cell? ⟨q,0,none⟩=some (.int .i64 b)) (hx:allIn a b zs=x) :
 Calls Tryz.prog 232 #[v,.pointer (some ⟨p,0,none⟩),.pointer (some ⟨q,0,none⟩)] w fun e w'=>e = .returned (.bool x)∧w=w':=by
 have HV:=Lib.hid hv
 have HX:=Lib.hid hx
 obtain ⟨va,cap,rfl,_⟩:=hv
 clear hx
 go_enter Tryz.func232,Tryz.ntmps232
 go_wp2_with fail
 go_loop [9] (fun i=>∃ k:Nat,k≤zs.length∧i = .int .i64 k∧∀ j,j<k→a≤zs.getD j 0∧zs.getD j 0≤b) (fun i=>zs.length - (intOf i).toNat)
 case atStart=>exact ⟨0,Nat.zero_le _,rfl,fun j hj=>by omega⟩
 case round=>
  obtain ⟨k,hk,rfl,hok⟩:=hrel
  have HOK:=Lib.hid hok
  clear hok
  by_cases hlt:k<zs.length
  ·obtain ⟨c,o,rfl,hle,hck⟩:=HV.out.cellAt hlt
   clear hle
   obtain ⟨y,hy⟩:∃ y,y=zs.getD k 0:=⟨_,rfl⟩
   rw [←hy] at hck
   have HY:=Lib.hid hy
   clear hy
   by_cases h1:y<a
   ·have hz:false=x:=by rw [←HX.out,allIn_no hlt (.inl (by rw [←HY.out];exact h1))]
    subst hz
    go_wp2_with fail
    go_ret
    exact ⟨rfl,rfl⟩
   ·by_cases h2:b<y
    ·have hz:false=x:=by rw [←HX.out,allIn_no hlt (.inr (by rw [←HY.out];exact h2))]
     subst hz
     go_wp2_with fail
     go_ret
     exact ⟨rfl,rfl⟩
    ·go_wp2_with fail
     refine ⟨⟨k+1,by omega,by go_num,fun j hj=>?_⟩,by simp [intOf];omega⟩
     by_cases hjk:j=k
     ·subst hjk
      rw [←HY.out]
      omega
     ·exact HOK.out j (by omega)
  ·have hkn:k=zs.length:=by omega
   subst hkn
   have hz:true=x:=by rw [←HX.out,allIn_yes HOK.out]
   subst hz
   go_wp2_with fail
   go_ret
   exact ⟨rfl,rfl⟩
def IsFrom (a b:Int) (w:World) (e:Ending) (w':World):Prop:=
 ∃ p q,e = .returned (.func (.func 232) #[] #[.pointer (some ⟨p,0,none⟩),.pointer (some ⟨q,0,none⟩)])∧w.heap.size≤p∧p<w'.heap.size∧w.heap.size≤q∧q<w'.heap.size∧w'.cell? ⟨p,0,none⟩=some (.int .i64 a)∧w'.cell? ⟨q,0,none⟩=some (.int .i64 b)∧Below w.heap.size w w'
theorem from_any (a b:Int) (w:World):Calls Tryz.prog 200 #[.int .i64 a,.int .i64 b] w (IsFrom a b w):=by
 go_enter Tryz.func200,Tryz.ntmps200
 go_wp2_with fail
 go_ret
 refine ⟨w.heap.size,w.heap.size+1,?_,Nat.le_refl _,?_,by omega,?_,?_,?_,?_⟩
 ·simp
 ·simp only [World.size_alloc];omega
 ·simp only [World.size_alloc];omega
 ·rw [(bcell ((Below.refl (w.alloc (.cells #[.int .i64 a] 3)).heap.size _).alloc (Nat.le_refl _) _)).1 w.heap.size 0 (by simp only [World.size_alloc];omega)]
  exact cell_new w _ _ 0 _ rfl
 ·have:=cell_new (w.alloc (.cells #[.int .i64 a] 3)) #[.int .i64 b] 3 0 _ rfl
  simp only [World.size_alloc] at this
  exact this
 ·exact ((Below.refl _ _).alloc (Nat.le_refl _) _).alloc (by simp) _
theorem ints_alloc (w:World) (zs:List Int) (T:TypeId):Ints (w.alloc (.cells (zs.map fun z=>Value.int .i64 z).toArray T)) (.slice (some ⟨w.heap.size,0,none⟩) zs.length zs.length) zs:=by
 refine ⟨some ⟨w.heap.size,0,none⟩,zs.length,rfl,.inr ⟨w.heap.size,0,rfl,fun i hi=>?_⟩⟩
 exact cell_new w _ _ _ _ (by simp [List.getD_eq_getElem?_getD,List.getElem?_eq_getElem hi])
theorem strs_alloc (w:World) (ts:List ByteArray) (T:TypeId):Strs (w.alloc (.cells (ts.map fun t=>Value.string t).toArray T)) w.heap.size (.slice (some ⟨w.heap.size,0,none⟩) ts.length ts.length) ts:=by
 refine ⟨some ⟨w.heap.size,0,none⟩,ts.length,rfl,.inr ⟨w.heap.size,0,rfl,Nat.le_refl _,fun i hi=>?_⟩⟩
 exact cell_new w _ _ _ _ (by simp [List.getD_eq_getElem?_getD,List.getElem?_eq_getElem hi])
def IdxTo (ts:List ByteArray) (s:ByteArray) (w:World) (e:Ending) (w':World):Prop:=∃ i:Int,e = .returned (.int .i64 i)∧decide (0≤i)=memB s ts∧w=w'
theorem index_any (v:Value) (ts:List ByteArray) (s:ByteArray) (w:World) (hv:Strs w 0 v ts) (hl:ts.length≤1000000):Calls Tryz.prog 206 #[v,.string s] w (IdxTo ts s w):=by
 have HV:=Lib.hid hv
 obtain ⟨a,cap,rfl⟩:=hv.form
 clear hv
 go_enter Tryz.func206,Tryz.ntmps206
 go_wp2_with fail
 go_loop [8] (fun i=>∃ k:Nat,k≤ts.length∧i = .int .i64 k∧∀ j,j<k→s≠ts.getD j ⟨#[]⟩) (fun i=>ts.length - (intOf i).toNat)
 case atStart=>exact ⟨0,Nat.zero_le _,rfl,fun j hj=>by omega⟩
 case round=>
  obtain ⟨k,hk,rfl,hok⟩:=hrel
  have HOK:=Lib.hid hok
  clear hok
  by_cases hlt:k<ts.length
  ·obtain ⟨b,o,rfl,hck⟩:=HV.out.cellAt hlt
   obtain ⟨t,ht⟩:∃ t,t=ts.getD k ⟨#[]⟩:=⟨_,rfl⟩
   rw [←ht] at hck
   have HT:=Lib.hid ht
   clear ht
   by_cases hst:s=t
   ·subst hst
    have HIN:Hid (s∈ts):=Lib.hid (by
     have h1:=HT.out
     rw [List.getD_eq_getElem?_getD,List.getElem?_eq_getElem hlt] at h1
     simp only [Option.getD_some] at h1
     rw [h1]
     exact List.getElem_mem hlt)
    go_wp2_with fail
    go_ret
    exact ⟨k,rfl,by rw [memB_iff.2 HIN.out];simp,rfl⟩
   ·have h1:(s.toList == t.toList)=false:=by
     have:s.toList≠t.toList:=fun h=>hst (by rw [←ba_toList s,h,ba_toList t])
     simpa using this
    have HNE:=Lib.hid hst
    clear hst
    go_wp2_with fail
    refine ⟨⟨k+1,by omega,by go_num,fun j hj=>?_⟩,by simp [intOf];omega⟩
    by_cases hjk:j=k
    ·subst hjk
     rw [←HT.out]
     exact HNE.out
    ·exact HOK.out j (by omega)
  ·have hkn:k=ts.length:=by omega
   subst hkn
   have HOUT:Hid (¬ s∈ts):=Lib.hid (fun hin=>by
    obtain ⟨j,hj,hx⟩:=List.mem_iff_getElem.1 hin
    have:=HOK.out j hj
    rw [List.getD_eq_getElem?_getD,List.getElem?_eq_getElem hj] at this
    exact this hx.symm)
   go_wp2_with fail
   go_ret
   exact ⟨-1,rfl,by rw [memB_no HOUT.out];simp,rfl⟩
theorem kcontains_any (v:Value) (ts:List ByteArray) (s:ByteArray) (x:Bool) (w:World) (hv:Strs w 0 v ts) (hl:ts.length≤1000000) (hx:memB s ts=x):Calls Tryz.prog 169 #[v,.string s] w fun e w'=>e = .returned (.bool x)∧w=w':=by
 have HI:=Lib.hid (index_any v ts s w hv hl)
 have HX:=Lib.hid hx
 clear hv hx
 go_enter Tryz.func169,Tryz.ntmps169
 go_wp2_with fail
 refine HI.out.mono ?_
 rintro e w1 ⟨i,rfl,hi,rfl⟩
 rw [HX.out] at hi
 cases x
 ·have h1:decide (0≤i)=false:=hi
  clear hi
  go_wp2_with fail
  go_ret
  exact ⟨rfl,rfl⟩
 ·have h1:decide (0≤i)=true:=hi
  clear hi
  go_wp2_with fail
  go_ret
  exact ⟨rfl,rfl⟩
def unlikeB (l:List ByteArray):Bool:=(List.range l.length).all fun i=>!memB (l.getD i ⟨#[]⟩) (l.take i)
theorem unlikeB_iff {l:List ByteArray}:unlikeB l=true↔∀ i,i<l.length→¬ l.getD i ⟨#[]⟩∈l.take i:=by
 unfold unlikeB
 simp only [List.all_eq_true,List.mem_range,Bool.not_eq_eq_eq_not,Bool.not_true]
 constructor
 ·intro h i hi hm
  have:=h i hi
  rw [memB_iff.2 hm] at this
  cases this
 ·intro h i hi
  exact memB_no (h i hi)
theorem Strs.take {w:World} {base:Nat} {a:Option Addr} {len cap:Nat} {ts:List ByteArray} (h:Strs w base (.slice a len cap) ts) (k:Nat) (hk:k≤ts.length):Strs w base (.slice a k cap) (ts.take k):=by
 obtain ⟨a',cap',e,h⟩:=h
 cases e
 have hl:(ts.take k).length=k:=by rw [List.length_take];omega
 refine ⟨a,cap,by rw [hl],?_⟩
 rcases h with h|⟨b,o,rfl,hb,h⟩
 ·subst h;exact .inl (by simp)
 ·refine .inr ⟨b,o,rfl,hb,fun i hi=>?_⟩
  rw [hl] at hi
  rw [h i (by omega)]
  simp [List.getD_eq_getElem?_getD,List.getElem?_take,hi]
def CapOk (v:Value):Prop:=∃ a len cap,v = .slice a len cap∧len≤cap
theorem unlike_any (v:Value) (ts:List ByteArray) (x:Bool) (w:World) (hv:Strs w 0 v ts) (hcap:CapOk v) (hl:ts.length≤1000000) (hx:unlikeB ts=x):Calls Tryz.prog 255 #[v] w fun e w'=>e = .returned (.bool x)∧w=w':=by
 have HV:=Lib.hid hv
 have HX:=Lib.hid hx
 obtain ⟨a,cap,rfl⟩:=hv.form
 have hcp:ts.length≤cap:=by obtain ⟨a',l',c',h,h2⟩:=hcap;cases h;exact h2
 clear hcap
 clear hv hx
 go_enter Tryz.func255,Tryz.ntmps255
 go_wp2_with fail
 go_loop [7] (fun i=>∃ k:Nat,k≤ts.length∧i = .int .i64 k∧∀ j,j<k→¬ ts.getD j ⟨#[]⟩∈ts.take j) (fun i=>ts.length - (intOf i).toNat)
 case atStart=>exact ⟨0,Nat.zero_le _,rfl,fun j hj=>by omega⟩
 case round=>
  obtain ⟨k,hk,rfl,hok⟩:=hrel
  have HOK:=Lib.hid hok
  clear hok
  by_cases hlt:k<ts.length
  ·obtain ⟨b,o,rfl,hck⟩:=HV.out.cellAt hlt
   have HT:=Lib.hid (HV.out.take k hk)
   obtain ⟨t,ht⟩:∃ t,t=ts.getD k ⟨#[]⟩:=⟨_,rfl⟩
   rw [←ht] at hck
   have HTE:=Lib.hid ht
   clear ht
   obtain ⟨y,hy⟩:∃ y,memB t (ts.take k)=y:=⟨_,rfl⟩
   have hlk:(ts.take k).length≤1000000:=by rw [List.length_take];omega
   have HC:=Lib.hid (kcontains_any _ (ts.take k) t y w HT.out hlk hy)
   have HY:=Lib.hid hy
   clear hy
   go_wp2_with fail
   refine HC.out.mono ?_
   rintro e w1 ⟨rfl,rfl⟩
   cases y
   ·go_wp2_with fail
    refine ⟨⟨k+1,by omega,by go_num,fun j hj=>?_⟩,by simp [intOf];omega⟩
    by_cases hjk:j=k
    ·subst hjk
     rw [←HTE.out]
     exact fun hm=>by have:=HY.out;rw [memB_iff.2 hm] at this;cases this
    ·exact HOK.out j (by omega)
   ·have hz:false=x:=by
     rw [←HX.out,eq_comm,←Bool.not_eq_true,unlikeB_iff]
     intro h
     have:=h k hlt
     rw [←HTE.out] at this
     exact this (memB_iff.1 HY.out)
    subst hz
    go_wp2_with fail
    go_ret
    exact ⟨rfl,rfl⟩
  ·have hkn:k=ts.length:=by omega
   subst hkn
   have hz:true=x:=by rw [←HX.out,eq_comm];exact unlikeB_iff.2 HOK.out
   subst hz
   go_wp2_with fail
   go_ret
   exact ⟨rfl,rfl⟩
def keysB (l:List ByteArray):Bool:=decide (l.length≤3) && (l.all keyB && unlikeB l)
theorem keys_any (v:Value) (ts:List ByteArray) (x:Bool) (w:World) (hv:Strs w 0 v ts) (hcap:CapOk v) (hl:ts.length≤1000000) (hs:∀ t∈ts,t.size≤maxLen) (hx:keysB ts=x):Calls Tryz.prog 235 #[v] w fun e w'=>e = .returned (.bool x)∧Below w.heap.size w w':=by
 unfold keysB at hx
 obtain ⟨y,hy⟩:∃ y,ts.all keyB=y:=⟨_,rfl⟩
 obtain ⟨z,hz⟩:∃ z,unlikeB ts=z:=⟨_,rfl⟩
 rw [hy,hz] at hx
 have HA:=Lib.hid (all_key v ts y w hv (by unfold maxLen;omega) hs hy)
 have HU:Hid (∀ W,Below w.heap.size w W→Calls Tryz.prog 255 #[v] W fun e w'=>e = .returned (.bool z)∧W=w'):=Lib.hid fun W hb=>unlike_any v ts z W (hv.below hb (Nat.le_refl _)) hcap hl hz
 obtain ⟨a,cap,rfl⟩:=hv.form
 clear hv hy hz hs hcap
 by_cases h3:ts.length≤3
 ·have hd:decide (ts.length≤3)=true:=decide_eq_true h3
  rw [hd] at hx
  clear hd
  have h3':(ts.length:Int)≤3:=by omega
  cases y
  ·obtain rfl:false=x:=hx
   go_enter Tryz.func235,Tryz.ntmps235
   go_wp2_with fail
   refine HA.out.mono ?_
   rintro e w1 ⟨rfl,hb⟩
   have HB:=Lib.hid hb
   clear hb
   go_wp2_with fail
   go_ret
   exact ⟨rfl,HB.out⟩
  ·obtain rfl:z=x:=hx
   go_enter Tryz.func235,Tryz.ntmps235
   go_wp2_with fail
   refine HA.out.mono ?_
   rintro e w1 ⟨rfl,hb⟩
   have HB:=Lib.hid hb
   clear hb
   go_wp2_with fail
   refine (HU.out _ HB.out).mono ?_
   rintro e w2 ⟨rfl,rfl⟩
   go_wp2_with fail
   go_ret
   exact ⟨rfl,HB.out⟩
 ·have hd:decide (ts.length≤3)=false:=decide_eq_false h3
  rw [hd] at hx
  clear hd
  obtain rfl:false=x:=hx
  have h3':¬ (ts.length:Int)≤3:=by omega
  go_enter Tryz.func235,Tryz.ntmps235
  go_wp2_with fail
  go_ret
  exact ⟨rfl,Below.refl _ _⟩
theorem range_four (a b n1 n2 n3 n4:Int) (z:Bool) (W:World) (p q:Nat) (hp:W.cell? ⟨p,0,none⟩=some (.int .i64 a)) (hq:W.cell? ⟨q,0,none⟩=some (.int .i64 b)) (h1:p<W.heap.size) (h2:q<W.heap.size) (hz:allIn a b [n1,n2,n3,n4]=z) :
 Calls Tryz.prog 232 #[.slice (some ⟨W.heap.size,0,none⟩) 4 4,.pointer (some ⟨p,0,none⟩),.pointer (some ⟨q,0,none⟩)] (W.alloc (.cells #[.int .i64 n1,.int .i64 n2,.int .i64 n3,.int .i64 n4] 3)) fun e w'=>e = .returned (.bool z)∧Below W.heap.size W w':=
 (range_any p q a b _ [n1,n2,n3,n4] z _ (ints_alloc W [n1,n2,n3,n4] 3) (by decide:(4:Nat)≤1000000)
  (by rw [(bcell ((Below.refl W.heap.size W).alloc (Nat.le_refl _) _)).1 p 0 h1];exact hp) (by rw [(bcell ((Below.refl W.heap.size W).alloc (Nat.le_refl _) _)).1 q 0 h2];exact hq) hz).mono fun e w' h=>⟨h.1,h.2▸(Below.refl W.heap.size W).alloc (Nat.le_refl _) _⟩
def bareB (m:MsgM):Bool:=allIn 0 0 [m.queue,m.due,m.retry,(m.keys.length:Int)] && (m.topic.toList.isEmpty && m.tag.toList.isEmpty)
structure Sound (m:MsgM):Prop where
 topic:m.topic.size≤maxLen
 tag:m.tag.size≤maxLen
 body:m.body.size≤1000000
 many:m.keys.length≤1000000
 keys:∀ t∈m.keys,t.size≤maxLen
set_option maxHeartbeats 8000000 in
set_option maxRecDepth 100000 in
theorem bare_any (m:MsgM) (vk:Value) (x:Bool) (w:World) (hk:Strs w 0 vk m.keys) (hx:bareB m=x) :
 Calls Tryz.prog 202 #[m.val vk] w fun e w'=>e = .returned (.bool x)∧Below w.heap.size w w':=by
 obtain ⟨a,cap,rfl⟩:=hk.form
 unfold bareB at hx
 obtain ⟨z,hz⟩:∃ z,allIn 0 0 [m.queue,m.due,m.retry,(m.keys.length:Int)]=z:=⟨_,rfl⟩
 have HR:=Lib.hid fun W p q hp hq h1 h2=>range_four 0 0 m.queue m.due m.retry (m.keys.length:Int) z W p q hp hq h1 h2 hz
 rw [hz] at hx
 clear hz hk
 unfold MsgM.val MsgM.cells
 cases z<;>cases hT:m.topic.toList.isEmpty<;>cases hG:m.tag.toList.isEmpty<;>rw [hT,hG] at hx<;>subst hx
 all_goals
  go_enter Tryz.func202,Tryz.ntmps202
  go_wp2_with fail
  refine (from_any 0 0 _).mono ?_
  rintro e w1 ⟨p,q,rfl,hp0,hp1,hq0,hq1,kp,kq,hb⟩
  have hz1:=hb.size
  have hc1:=(bcell hb).1
  simp only [World.size_alloc] at hz1 hp0 hq0 hc1
  have HA1:=Lib.hid hb
  clear hb
  go_wp2_with fail
  refine (HR.out w1 p q kp kq hp1 hq1).mono ?_
  rintro e w2 ⟨rfl,hb⟩
  have hz2:=hb.size
  have hb:=HA1.out.trans (hb.mono (by simp only [World.size_alloc];omega))
  have hc2:=(bcell hb).1
  simp only [World.size_alloc] at hc2
  have HA2:=Lib.hid hb
  clear hb hc1
  go_wp2_with fail
  go_ret
  exact ⟨rfl,((Below.refl w.heap.size w).alloc (Nat.le_refl _) _).trans (HA2.out.mono (by simp))⟩
def wholeB (m:MsgM):Bool:=allIn 0 2 [m.queue] && (allIn 0 4 [m.retry] && (topicB m.topic && (tagB m.tag && (keysB m.keys && decide (m.body.size≤200)))))
theorem range_one (a b n:Int) (z:Bool) (W:World) (p q:Nat) (hp:W.cell? ⟨p,0,none⟩=some (.int .i64 a)) (hq:W.cell? ⟨q,0,none⟩=some (.int .i64 b)) (h1:p<W.heap.size) (h2:q<W.heap.size) (hz:allIn a b [n]=z) :
 Calls Tryz.prog 232 #[.slice (some ⟨W.heap.size,0,none⟩) 1 1,.pointer (some ⟨p,0,none⟩),.pointer (some ⟨q,0,none⟩)] (W.alloc (.cells #[.int .i64 n] 3)) fun e w'=>e = .returned (.bool z)∧Below W.heap.size W w':=
 (range_any p q a b _ [n] z _ (ints_alloc W [n] 3) (by decide:(1:Nat)≤1000000)
  (by rw [(bcell ((Below.refl W.heap.size W).alloc (Nat.le_refl _) _)).1 p 0 h1];exact hp) (by rw [(bcell ((Below.refl W.heap.size W).alloc (Nat.le_refl _) _)).1 q 0 h2];exact hq) hz).mono fun e w' h=>⟨h.1,h.2▸(Below.refl W.heap.size W).alloc (Nat.le_refl _) _⟩
theorem topic_at (s:ByteArray) (z:Bool) (W:World) (hs:s.size≤maxLen) (hz:topicB s=z):Calls Tryz.prog 233 #[.string s] W fun e w'=>e = .returned (.bool z)∧Below W.heap.size W w':=hz▸topic_any s W hs
theorem tag_at (s:ByteArray) (z:Bool) (W:World) (hs:s.size≤maxLen) (hz:tagB s=z):Calls Tryz.prog 234 #[.string s] W fun e w'=>e = .returned (.bool z)∧Below W.heap.size W w':=hz▸tag_any s W hs
set_option maxHeartbeats 4000000 in
set_option maxRecDepth 100000 in
theorem whole_any (m:MsgM) (vk:Value) (x:Bool) (w:World) (hk:Strs w 0 vk m.keys) (hcap:CapOk vk) (hs:Sound m) (hx:wholeB m=x) :
 Calls Tryz.prog 203 #[m.val vk] w fun e w'=>e = .returned (.bool x)∧Below w.heap.size w w':=by
 unfold wholeB at hx
 obtain ⟨z1,h1⟩:∃ z,allIn 0 2 [m.queue]=z:=⟨_,rfl⟩
 obtain ⟨z2,h2⟩:∃ z,allIn 0 4 [m.retry]=z:=⟨_,rfl⟩
 obtain ⟨z3,h3⟩:∃ z,topicB m.topic=z:=⟨_,rfl⟩
 obtain ⟨z4,h4⟩:∃ z,tagB m.tag=z:=⟨_,rfl⟩
 obtain ⟨z5,h5⟩:∃ z,keysB m.keys=z:=⟨_,rfl⟩
 have HQ:=Lib.hid fun W p q hp hq a b=>range_one 0 2 m.queue z1 W p q hp hq a b h1
 have HRT:=Lib.hid fun W p q hp hq a b=>range_one 0 4 m.retry z2 W p q hp hq a b h2
 have HTO:=Lib.hid fun W=>topic_at m.topic z3 W hs.topic h3
 have HTG:=Lib.hid fun W=>tag_at m.tag z4 W hs.tag h4
 have HKY:Hid (∀ W,Below w.heap.size w W→Calls Tryz.prog 235 #[vk] W fun e w'=>e = .returned (.bool z5)∧Below W.heap.size W w'):=Lib.hid fun W hb=>keys_any vk m.keys z5 W (hk.below hb (Nat.le_refl _)) hcap hs.many hs.keys h5
 rw [h1,h2,h3,h4,h5] at hx
 clear h1 h2 h3 h4 h5 hs hk hcap
 unfold MsgM.val MsgM.cells
 cases z1
 ·obtain rfl:false=x:=by simpa using hx
  go_enter Tryz.func203,Tryz.ntmps203
  go_wp2_with fail
  refine (from_any 0 2 _).mono ?_
  rintro e w1 ⟨p,q,rfl,hp0,hp1,hq0,hq1,kp,kq,hb⟩
  have hz1:=hb.size
  have hc1:=(bcell hb).1
  simp only [World.size_alloc] at hz1 hp0 hq0 hc1
  have HA1:=Lib.hid hb
  clear hb
  go_wp2_with fail
  refine (from_any 0 4 _).mono ?_
  rintro e w2 ⟨p',q',rfl,hp0',hp1',hq0',hq1',kp',kq',hb⟩
  have kp2:=((bcell hb).1 p 0 hp1).trans kp
  have kq2:=((bcell hb).1 q 0 hq1).trans kq
  have hz2:=hb.size
  have hb:=HA1.out.trans (hb.mono (by simp only [World.size_alloc];omega))
  have hc2:=(bcell hb).1
  simp only [World.size_alloc] at hc2
  have HA2:=Lib.hid hb
  clear hb kp kq HA1 hc1
  go_wp2_with fail
  refine (HQ.out w2 p q kp2 kq2 (by omega) (by omega)).mono ?_
  rintro e w3 ⟨rfl,hb⟩
  have kp3':=((bcell hb).1 p' 0 hp1').trans kp'
  have kq3':=((bcell hb).1 q' 0 hq1').trans kq'
  have hz3:=hb.size
  have hb:=HA2.out.trans (hb.mono (by simp only [World.size_alloc];omega))
  have hc3:=(bcell hb).1
  simp only [World.size_alloc] at hc3
  have HA3:=Lib.hid hb
  clear hb hc2
  go_wp2_with fail
  go_ret
  exact ⟨rfl,((Below.refl w.heap.size w).alloc (Nat.le_refl _) _).trans (HA3.out.mono (by simp))⟩
 cases z2
 ·obtain rfl:false=x:=by simpa using hx
  go_enter Tryz.func203,Tryz.ntmps203
  go_wp2_with fail
  refine (from_any 0 2 _).mono ?_
  rintro e w1 ⟨p,q,rfl,hp0,hp1,hq0,hq1,kp,kq,hb⟩
  have hz1:=hb.size
  have hc1:=(bcell hb).1
  simp only [World.size_alloc] at hz1 hp0 hq0 hc1
  have HA1:=Lib.hid hb
  clear hb
  go_wp2_with fail
  refine (from_any 0 4 _).mono ?_
  rintro e w2 ⟨p',q',rfl,hp0',hp1',hq0',hq1',kp',kq',hb⟩
  have kp2:=((bcell hb).1 p 0 hp1).trans kp
  have kq2:=((bcell hb).1 q 0 hq1).trans kq
  have hz2:=hb.size
  have hb:=HA1.out.trans (hb.mono (by simp only [World.size_alloc];omega))
  have hc2:=(bcell hb).1
  simp only [World.size_alloc] at hc2
  have HA2:=Lib.hid hb
  clear hb kp kq HA1 hc1
  go_wp2_with fail
  refine (HQ.out w2 p q kp2 kq2 (by omega) (by omega)).mono ?_
  rintro e w3 ⟨rfl,hb⟩
  have kp3':=((bcell hb).1 p' 0 hp1').trans kp'
  have kq3':=((bcell hb).1 q' 0 hq1').trans kq'
  have hz3:=hb.size
  have hb:=HA2.out.trans (hb.mono (by simp only [World.size_alloc];omega))
  have hc3:=(bcell hb).1
  simp only [World.size_alloc] at hc3
  have HA3:=Lib.hid hb
  clear hb hc2
  go_wp2_with fail
  refine (HRT.out w3 p' q' kp3' kq3' (by omega) (by omega)).mono ?_
  rintro e w4 ⟨rfl,hb⟩
  have hz4:=hb.size
  have hb:=HA3.out.trans (hb.mono (by simp only [World.size_alloc];omega))
  have hc4:=(bcell hb).1
  simp only [World.size_alloc] at hc4
  have HA4:=Lib.hid hb
  clear hb hc3
  go_wp2_with fail
  go_ret
  exact ⟨rfl,((Below.refl w.heap.size w).alloc (Nat.le_refl _) _).trans (HA4.out.mono (by simp))⟩
 cases z3
 ·obtain rfl:false=x:=by simpa using hx
  go_enter Tryz.func203,Tryz.ntmps203
  go_wp2_with fail
  refine (from_any 0 2 _).mono ?_
  rintro e w1 ⟨p,q,rfl,hp0,hp1,hq0,hq1,kp,kq,hb⟩
  have hz1:=hb.size
  have hc1:=(bcell hb).1
  simp only [World.size_alloc] at hz1 hp0 hq0 hc1
  have HA1:=Lib.hid hb
  clear hb
  go_wp2_with fail
  refine (from_any 0 4 _).mono ?_
  rintro e w2 ⟨p',q',rfl,hp0',hp1',hq0',hq1',kp',kq',hb⟩
  have kp2:=((bcell hb).1 p 0 hp1).trans kp
  have kq2:=((bcell hb).1 q 0 hq1).trans kq
  have hz2:=hb.size
  have hb:=HA1.out.trans (hb.mono (by simp only [World.size_alloc];omega))
  have hc2:=(bcell hb).1
  simp only [World.size_alloc] at hc2
  have HA2:=Lib.hid hb
  clear hb kp kq HA1 hc1
  go_wp2_with fail
  refine (HQ.out w2 p q kp2 kq2 (by omega) (by omega)).mono ?_
  rintro e w3 ⟨rfl,hb⟩
  have kp3':=((bcell hb).1 p' 0 hp1').trans kp'
  have kq3':=((bcell hb).1 q' 0 hq1').trans kq'
  have hz3:=hb.size
  have hb:=HA2.out.trans (hb.mono (by simp only [World.size_alloc];omega))
  have hc3:=(bcell hb).1
  simp only [World.size_alloc] at hc3
  have HA3:=Lib.hid hb
  clear hb hc2
  go_wp2_with fail
  refine (HRT.out w3 p' q' kp3' kq3' (by omega) (by omega)).mono ?_
  rintro e w4 ⟨rfl,hb⟩
  have hz4:=hb.size
  have hb:=HA3.out.trans (hb.mono (by simp only [World.size_alloc];omega))
  have hc4:=(bcell hb).1
  simp only [World.size_alloc] at hc4
  have HA4:=Lib.hid hb
  clear hb hc3
  go_wp2_with fail
  refine (HTO.out _).mono ?_
  rintro e w5 ⟨rfl,hb⟩
  have hz5:=hb.size
  have hb:=HA4.out.trans (hb.mono (by simp only [World.size_alloc];omega))
  have hc5:=(bcell hb).1
  simp only [World.size_alloc] at hc5
  have HA5:=Lib.hid hb
  clear hb hc4
  go_wp2_with fail
  go_ret
  exact ⟨rfl,((Below.refl w.heap.size w).alloc (Nat.le_refl _) _).trans (HA5.out.mono (by simp))⟩
 cases z4
 ·obtain rfl:false=x:=by simpa using hx
  go_enter Tryz.func203,Tryz.ntmps203
  go_wp2_with fail
  refine (from_any 0 2 _).mono ?_
  rintro e w1 ⟨p,q,rfl,hp0,hp1,hq0,hq1,kp,kq,hb⟩
  have hz1:=hb.size
  have hc1:=(bcell hb).1
  simp only [World.size_alloc] at hz1 hp0 hq0 hc1
  have HA1:=Lib.hid hb
  clear hb
  go_wp2_with fail
  refine (from_any 0 4 _).mono ?_
  rintro e w2 ⟨p',q',rfl,hp0',hp1',hq0',hq1',kp',kq',hb⟩
  have kp2:=((bcell hb).1 p 0 hp1).trans kp
  have kq2:=((bcell hb).1 q 0 hq1).trans kq
  have hz2:=hb.size
  have hb:=HA1.out.trans (hb.mono (by simp only [World.size_alloc];omega))
  have hc2:=(bcell hb).1
  simp only [World.size_alloc] at hc2
  have HA2:=Lib.hid hb
  clear hb kp kq HA1 hc1
  go_wp2_with fail
  refine (HQ.out w2 p q kp2 kq2 (by omega) (by omega)).mono ?_
  rintro e w3 ⟨rfl,hb⟩
  have kp3':=((bcell hb).1 p' 0 hp1').trans kp'
  have kq3':=((bcell hb).1 q' 0 hq1').trans kq'
  have hz3:=hb.size
  have hb:=HA2.out.trans (hb.mono (by simp only [World.size_alloc];omega))
  have hc3:=(bcell hb).1
  simp only [World.size_alloc] at hc3
  have HA3:=Lib.hid hb
  clear hb hc2
  go_wp2_with fail
  refine (HRT.out w3 p' q' kp3' kq3' (by omega) (by omega)).mono ?_
  rintro e w4 ⟨rfl,hb⟩
  have hz4:=hb.size
  have hb:=HA3.out.trans (hb.mono (by simp only [World.size_alloc];omega))
  have hc4:=(bcell hb).1
  simp only [World.size_alloc] at hc4
  have HA4:=Lib.hid hb
  clear hb hc3
  go_wp2_with fail
  refine (HTO.out _).mono ?_
  rintro e w5 ⟨rfl,hb⟩
  have hz5:=hb.size
  have hb:=HA4.out.trans (hb.mono (by simp only [World.size_alloc];omega))
  have hc5:=(bcell hb).1
  simp only [World.size_alloc] at hc5
  have HA5:=Lib.hid hb
  clear hb hc4
  go_wp2_with fail
  refine (HTG.out _).mono ?_
  rintro e w6 ⟨rfl,hb⟩
  have hz6:=hb.size
  have hb:=HA5.out.trans (hb.mono (by simp only [World.size_alloc];omega))
  have hc6:=(bcell hb).1
  simp only [World.size_alloc] at hc6
  have HA6:=Lib.hid hb
  clear hb hc5
  go_wp2_with fail
  go_ret
  exact ⟨rfl,((Below.refl w.heap.size w).alloc (Nat.le_refl _) _).trans (HA6.out.mono (by simp))⟩
 cases z5
 ·obtain rfl:false=x:=by simpa using hx
  go_enter Tryz.func203,Tryz.ntmps203
  go_wp2_with fail
  refine (from_any 0 2 _).mono ?_
  rintro e w1 ⟨p,q,rfl,hp0,hp1,hq0,hq1,kp,kq,hb⟩
  have hz1:=hb.size
  have hc1:=(bcell hb).1
  simp only [World.size_alloc] at hz1 hp0 hq0 hc1
  have HA1:=Lib.hid hb
  clear hb
  go_wp2_with fail
  refine (from_any 0 4 _).mono ?_
  rintro e w2 ⟨p',q',rfl,hp0',hp1',hq0',hq1',kp',kq',hb⟩
  have kp2:=((bcell hb).1 p 0 hp1).trans kp
  have kq2:=((bcell hb).1 q 0 hq1).trans kq
  have hz2:=hb.size
  have hb:=HA1.out.trans (hb.mono (by simp only [World.size_alloc];omega))
  have hc2:=(bcell hb).1
  simp only [World.size_alloc] at hc2
  have HA2:=Lib.hid hb
  clear hb kp kq HA1 hc1
  go_wp2_with fail
  refine (HQ.out w2 p q kp2 kq2 (by omega) (by omega)).mono ?_
  rintro e w3 ⟨rfl,hb⟩
  have kp3':=((bcell hb).1 p' 0 hp1').trans kp'
  have kq3':=((bcell hb).1 q' 0 hq1').trans kq'
  have hz3:=hb.size
  have hb:=HA2.out.trans (hb.mono (by simp only [World.size_alloc];omega))
  have hc3:=(bcell hb).1
  simp only [World.size_alloc] at hc3
  have HA3:=Lib.hid hb
  clear hb hc2
  go_wp2_with fail
  refine (HRT.out w3 p' q' kp3' kq3' (by omega) (by omega)).mono ?_
  rintro e w4 ⟨rfl,hb⟩
  have hz4:=hb.size
  have hb:=HA3.out.trans (hb.mono (by simp only [World.size_alloc];omega))
  have hc4:=(bcell hb).1
  simp only [World.size_alloc] at hc4
  have HA4:=Lib.hid hb
  clear hb hc3
  go_wp2_with fail
  refine (HTO.out _).mono ?_
  rintro e w5 ⟨rfl,hb⟩
  have hz5:=hb.size
  have hb:=HA4.out.trans (hb.mono (by simp only [World.size_alloc];omega))
  have hc5:=(bcell hb).1
  simp only [World.size_alloc] at hc5
  have HA5:=Lib.hid hb
  clear hb hc4
  go_wp2_with fail
  refine (HTG.out _).mono ?_
  rintro e w6 ⟨rfl,hb⟩
  have hz6:=hb.size
  have hb:=HA5.out.trans (hb.mono (by simp only [World.size_alloc];omega))
  have hc6:=(bcell hb).1
  simp only [World.size_alloc] at hc6
  have HA6:=Lib.hid hb
  clear hb hc5
  go_wp2_with fail
  refine (HKY.out _ (((Below.refl w.heap.size w).alloc (Nat.le_refl _) _).trans (HA6.out.mono (by simp)))).mono ?_
  rintro e w7 ⟨rfl,hb⟩
  have hz7:=hb.size
  have hb:=HA6.out.trans (hb.mono (by simp only [World.size_alloc];omega))
  have hc7:=(bcell hb).1
  simp only [World.size_alloc] at hc7
  have HA7:=Lib.hid hb
  clear hb hc6
  go_wp2_with fail
  go_ret
  exact ⟨rfl,((Below.refl w.heap.size w).alloc (Nat.le_refl _) _).trans (HA7.out.mono (by simp))⟩
 by_cases hb2:m.body.size≤200
 ·obtain rfl:true=x:=by rw [decide_eq_true hb2] at hx;simpa using hx
  have hb3:(m.body.size:Int)≤200:=by omega
  go_enter Tryz.func203,Tryz.ntmps203
  go_wp2_with fail
  refine (from_any 0 2 _).mono ?_
  rintro e w1 ⟨p,q,rfl,hp0,hp1,hq0,hq1,kp,kq,hb⟩
  have hz1:=hb.size
  have hc1:=(bcell hb).1
  simp only [World.size_alloc] at hz1 hp0 hq0 hc1
  have HA1:=Lib.hid hb
  clear hb
  go_wp2_with fail
  refine (from_any 0 4 _).mono ?_
  rintro e w2 ⟨p',q',rfl,hp0',hp1',hq0',hq1',kp',kq',hb⟩
  have kp2:=((bcell hb).1 p 0 hp1).trans kp
  have kq2:=((bcell hb).1 q 0 hq1).trans kq
  have hz2:=hb.size
  have hb:=HA1.out.trans (hb.mono (by simp only [World.size_alloc];omega))
  have hc2:=(bcell hb).1
  simp only [World.size_alloc] at hc2
  have HA2:=Lib.hid hb
  clear hb kp kq HA1 hc1
  go_wp2_with fail
  refine (HQ.out w2 p q kp2 kq2 (by omega) (by omega)).mono ?_
  rintro e w3 ⟨rfl,hb⟩
  have kp3':=((bcell hb).1 p' 0 hp1').trans kp'
  have kq3':=((bcell hb).1 q' 0 hq1').trans kq'
  have hz3:=hb.size
  have hb:=HA2.out.trans (hb.mono (by simp only [World.size_alloc];omega))
  have hc3:=(bcell hb).1
  simp only [World.size_alloc] at hc3
  have HA3:=Lib.hid hb
  clear hb hc2
  go_wp2_with fail
  refine (HRT.out w3 p' q' kp3' kq3' (by omega) (by omega)).mono ?_
  rintro e w4 ⟨rfl,hb⟩
  have hz4:=hb.size
  have hb:=HA3.out.trans (hb.mono (by simp only [World.size_alloc];omega))
  have hc4:=(bcell hb).1
  simp only [World.size_alloc] at hc4
  have HA4:=Lib.hid hb
  clear hb hc3
  go_wp2_with fail
  refine (HTO.out _).mono ?_
  rintro e w5 ⟨rfl,hb⟩
  have hz5:=hb.size
  have hb:=HA4.out.trans (hb.mono (by simp only [World.size_alloc];omega))
  have hc5:=(bcell hb).1
  simp only [World.size_alloc] at hc5
  have HA5:=Lib.hid hb
  clear hb hc4
  go_wp2_with fail
  refine (HTG.out _).mono ?_
  rintro e w6 ⟨rfl,hb⟩
  have hz6:=hb.size
  have hb:=HA5.out.trans (hb.mono (by simp only [World.size_alloc];omega))
  have hc6:=(bcell hb).1
  simp only [World.size_alloc] at hc6
  have HA6:=Lib.hid hb
  clear hb hc5
  go_wp2_with fail
  refine (HKY.out _ (((Below.refl w.heap.size w).alloc (Nat.le_refl _) _).trans (HA6.out.mono (by simp)))).mono ?_
  rintro e w7 ⟨rfl,hb⟩
  have hz7:=hb.size
  have hb:=HA6.out.trans (hb.mono (by simp only [World.size_alloc];omega))
  have hc7:=(bcell hb).1
  simp only [World.size_alloc] at hc7
  have HA7:=Lib.hid hb
  clear hb hc6
  go_wp2_with fail
  go_ret
  exact ⟨rfl,((Below.refl w.heap.size w).alloc (Nat.le_refl _) _).trans (HA7.out.mono (by simp))⟩
 ·obtain rfl:false=x:=by rw [decide_eq_false hb2] at hx;simpa using hx
  have hb3:decide ((m.body.size:Int)≤200)=false:=decide_eq_false (by omega)
  go_enter Tryz.func203,Tryz.ntmps203
  go_wp2_with fail
  refine (from_any 0 2 _).mono ?_
  rintro e w1 ⟨p,q,rfl,hp0,hp1,hq0,hq1,kp,kq,hb⟩
  have hz1:=hb.size
  have hc1:=(bcell hb).1
  simp only [World.size_alloc] at hz1 hp0 hq0 hc1
  have HA1:=Lib.hid hb
  clear hb
  go_wp2_with fail
  refine (from_any 0 4 _).mono ?_
  rintro e w2 ⟨p',q',rfl,hp0',hp1',hq0',hq1',kp',kq',hb⟩
  have kp2:=((bcell hb).1 p 0 hp1).trans kp
  have kq2:=((bcell hb).1 q 0 hq1).trans kq
  have hz2:=hb.size
  have hb:=HA1.out.trans (hb.mono (by simp only [World.size_alloc];omega))
  have hc2:=(bcell hb).1
  simp only [World.size_alloc] at hc2
  have HA2:=Lib.hid hb
  clear hb kp kq HA1 hc1
  go_wp2_with fail
  refine (HQ.out w2 p q kp2 kq2 (by omega) (by omega)).mono ?_
  rintro e w3 ⟨rfl,hb⟩
  have kp3':=((bcell hb).1 p' 0 hp1').trans kp'
  have kq3':=((bcell hb).1 q' 0 hq1').trans kq'
  have hz3:=hb.size
  have hb:=HA2.out.trans (hb.mono (by simp only [World.size_alloc];omega))
  have hc3:=(bcell hb).1
  simp only [World.size_alloc] at hc3
  have HA3:=Lib.hid hb
  clear hb hc2
  go_wp2_with fail
  refine (HRT.out w3 p' q' kp3' kq3' (by omega) (by omega)).mono ?_
  rintro e w4 ⟨rfl,hb⟩
  have hz4:=hb.size
  have hb:=HA3.out.trans (hb.mono (by simp only [World.size_alloc];omega))
  have hc4:=(bcell hb).1
  simp only [World.size_alloc] at hc4
  have HA4:=Lib.hid hb
  clear hb hc3
  go_wp2_with fail
  refine (HTO.out _).mono ?_
  rintro e w5 ⟨rfl,hb⟩
  have hz5:=hb.size
  have hb:=HA4.out.trans (hb.mono (by simp only [World.size_alloc];omega))
  have hc5:=(bcell hb).1
  simp only [World.size_alloc] at hc5
  have HA5:=Lib.hid hb
  clear hb hc4
  go_wp2_with fail
  refine (HTG.out _).mono ?_
  rintro e w6 ⟨rfl,hb⟩
  have hz6:=hb.size
  have hb:=HA5.out.trans (hb.mono (by simp only [World.size_alloc];omega))
  have hc6:=(bcell hb).1
  simp only [World.size_alloc] at hc6
  have HA6:=Lib.hid hb
  clear hb hc5
  go_wp2_with fail
  refine (HKY.out _ (((Below.refl w.heap.size w).alloc (Nat.le_refl _) _).trans (HA6.out.mono (by simp)))).mono ?_
  rintro e w7 ⟨rfl,hb⟩
  have hz7:=hb.size
  have hb:=HA6.out.trans (hb.mono (by simp only [World.size_alloc];omega))
  have hc7:=(bcell hb).1
  simp only [World.size_alloc] at hc7
  have HA7:=Lib.hid hb
  clear hb hc6
  go_wp2_with fail
  go_ret
  exact ⟨rfl,((Below.refl w.heap.size w).alloc (Nat.le_refl _) _).trans (HA7.out.mono (by simp))⟩
end Go.Proofs.YtajmeimjaapagaaGreatDoor
