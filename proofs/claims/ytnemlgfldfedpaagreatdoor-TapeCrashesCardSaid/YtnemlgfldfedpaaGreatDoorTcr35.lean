/- A part. -/
import Derived.Lib.SmallJoins
import Derived.Test.YtnemlgfldfedpaaGreatDoorTcr33
import Derived.Test.YtnemlgfldfedpaaGreatDoorTcr34
set_option linter.unusedVariables false
set_option linter.unusedSimpArgs false
namespace Go.Proofs.YtnemlgfldfedpaaGreatDoor
open Go.RowKit Go.Deep
structure Fine (m:MsgM):Prop where
 body:m.body.size≤2000
 topic:m.topic.size≤100
 tag:m.tag.size≤100
 many:m.keys.length≤10
 keys:∀ t∈m.keys,t.size≤100
structure Sized (w:World) (p:MsgM×Value):Prop where
 strs:Strs w 0 p.2 p.1.keys
 body:p.1.body.size≤maxLen
 topic:p.1.topic.size≤maxLen
 tag:p.1.tag.size≤maxLen
 many:p.1.keys.length≤maxLen
 keys:∀ t∈p.1.keys,t.size≤maxLen
def GreatTo (ms:List (MsgM×Value)) (w:World) (e:Ending) (w':World):Prop:=∃ x,e = .returned (.bool x)∧(x=false→∀ p∈ms,Fine p.1)∧Below w.heap.size w w'
theorem take_more {ts:List ByteArray} {j:Nat} {t:ByteArray} {n:Nat} (h:∀ t∈ts.take j,t.size≤n) (hj:ts[j]? = some t) (ht:t.size≤n):∀ t∈ts.take (j+1),t.size≤n:=by
 intro u hu
 rw [List.take_add_one,hj] at hu
 rcases List.mem_append.1 hu with hu|hu
 ·exact h u hu
 ·simp only [Option.toList_some,List.mem_singleton] at hu
  rw [hu]
  exact ht
end Go.Proofs.YtnemlgfldfedpaaGreatDoor
namespace Go.Proofs.YtnemlgfldfedpaaGreatDoor
open Go.Joins Go.ChangeShapes Go.WideShapes Go.RowKit Go.Deep
section
variable {H:Type} {enc:TypeId×Value→H} {P:Program} {w:World} {base:Nat} {spare:Nat→Bool} {held:Bool}
theorem open_agg10 {r:Reach} {b0:Nat} {t:TypeId} {f0 f1 f2 f3 f4 f5 f6 f7 f8 f9:Field} {v:Value} {d:DataW H} {p:List MemPlace} (hs:P.underlying t=some (.struct #[f0,f1,f2,f3,f4,f5,f6,f7,f8,f9])) (hone:oneCellFields P #[f0,f1,f2,f3,f4,f5,f6,f7,f8,f9]=true) (hC:P.cellsOf t=10)
 (hv:Value.okWide P w r b0 t v) (h:DataW.Trod enc P w base spare held t v d p) :
 ∃ (v0 v1 v2 v3 v4 v5 v6 v7 v8 v9:Value) (y0 y1 y2 y3 y4 y5 y6 y7 y8 y9:DataW H×List MemPlace) (n:Nat),v = .agg #[v0,v1,v2,v3,v4,v5,v6,v7,v8,v9]∧d = .agg [y0.1,y1.1,y2.1,y3.1,y4.1,y5.1,y6.1,y7.1,y8.1,y9.1]∧p=y0.2 ++ (y1.2 ++ (y2.2 ++ (y3.2 ++ (y4.2 ++ (y5.2 ++ (y6.2 ++ (y7.2 ++ (y8.2 ++ (y9.2))))))))) ∧
  DataW.trod enc P w base spare held n f0.type [v0]=some y0∧DataW.trod enc P w base spare held n f1.type [v1]=some y1∧DataW.trod enc P w base spare held n f2.type [v2]=some y2∧DataW.trod enc P w base spare held n f3.type [v3]=some y3∧DataW.trod enc P w base spare held n f4.type [v4]=some y4∧DataW.trod enc P w base spare held n f5.type [v5]=some y5∧DataW.trod enc P w base spare held n f6.type [v6]=some y6∧DataW.trod enc P w base spare held n f7.type [v7]=some y7∧DataW.trod enc P w base spare held n f8.type [v8]=some y8∧DataW.trod enc P w base spare held n f9.type [v9]=some y9:=by
 obtain ⟨cs,rfl,hsz⟩:=okWide_struct hs hv
 obtain ⟨l⟩:=cs
 match l,hsz.trans hC with
 | [c0,c1,c2,c3,c4,c5,c6,c7,c8,c9],_=>
  obtain ⟨fuel,hf⟩:=h
  obtain ⟨xs,n,_,hx,_,hlen,hg⟩:=DataW.trod_struct hs hf
  obtain ⟨o0,k0⟩:=hone_of hone 0 f0 rfl
  obtain ⟨o1,k1⟩:=hone_of hone 1 f1 rfl
  obtain ⟨o2,k2⟩:=hone_of hone 2 f2 rfl
  obtain ⟨o3,k3⟩:=hone_of hone 3 f3 rfl
  obtain ⟨o4,k4⟩:=hone_of hone 4 f4 rfl
  obtain ⟨o5,k5⟩:=hone_of hone 5 f5 rfl
  obtain ⟨o6,k6⟩:=hone_of hone 6 f6 rfl
  obtain ⟨o7,k7⟩:=hone_of hone 7 f7 rfl
  obtain ⟨o8,k8⟩:=hone_of hone 8 f8 rfl
  obtain ⟨o9,k9⟩:=hone_of hone 9 f9 rfl
  match xs,hlen with
  | [y0,y1,y2,y3,y4,y5,y6,y7,y8,y9],_=>
   simp only [Prod.mk.injEq] at hx
   exact ⟨c0,c1,c2,c3,c4,c5,c6,c7,c8,c9,y0,y1,y2,y3,y4,y5,y6,y7,y8,y9,n,rfl,by simpa using hx.1,by simpa using hx.2,by simpa [Value.cells,o0,k0] using hg 0 f0 rfl,by simpa [Value.cells,o1,k1] using hg 1 f1 rfl,by simpa [Value.cells,o2,k2] using hg 2 f2 rfl,by simpa [Value.cells,o3,k3] using hg 3 f3 rfl,by simpa [Value.cells,o4,k4] using hg 4 f4 rfl,by simpa [Value.cells,o5,k5] using hg 5 f5 rfl,by simpa [Value.cells,o6,k6] using hg 6 f6 rfl,by simpa [Value.cells,o7,k7] using hg 7 f7 rfl,by simpa [Value.cells,o8,k8] using hg 8 f8 rfl,by simpa [Value.cells,o9,k9] using hg 9 f9 rfl⟩
end
set_option maxRecDepth 100000 in
theorem open_msg {H:Type} {enc:TypeId×Value→H} {w:World} {r:Reach} {bb:Nat} {v:Value} {d:DataW H} {p:List MemPlace} (hv:Value.okWide Tryz.prog w r bb 30 v) (h:DataW.Trod enc Tryz.prog w 0 (fun _=>true) true 30 v d p) :
 ∃ (m:MsgM) (vk:Value),v=m.val vk∧Sized w (m,vk)∧CapOk vk:=by
 obtain ⟨v0,v1,v2,v3,v4,v5,v6,v7,v8,v9,y0,y1,y2,y3,y4,y5,y6,y7,y8,y9,n,rfl,hd,hp,g0,g1,g2,g3,g4,g5,g6,g7,g8,g9⟩:=open_agg10 Tryz.underlying30 (by kernel_rfl) (by kernel_rfl) hv h
 obtain ⟨b0,e0,_,_⟩:=DataW.trod_int Tryz.underlying3 g0
 obtain rfl:v0=_:=List.singleton_inj.1 e0
 obtain ⟨b1,e1,_,_⟩:=DataW.trod_int Tryz.underlying3 g1
 obtain rfl:v1=_:=List.singleton_inj.1 e1
 obtain ⟨b2,e2,_,_⟩:=DataW.trod_int Tryz.underlying3 g2
 obtain rfl:v2=_:=List.singleton_inj.1 e2
 obtain ⟨b3,e3,_,_⟩:=DataW.trod_int Tryz.underlying3 g3
 obtain rfl:v3=_:=List.singleton_inj.1 e3
 obtain ⟨b4,e4,_,_⟩:=DataW.trod_int Tryz.underlying3 g4
 obtain rfl:v4=_:=List.singleton_inj.1 e4
 obtain ⟨b5,e5,_,_⟩:=DataW.trod_int Tryz.underlying3 g5
 obtain rfl:v5=_:=List.singleton_inj.1 e5
 obtain ⟨b6,e6,_,z6⟩:=DataW.trod_string Tryz.underlying9 g6
 obtain rfl:v6=_:=List.singleton_inj.1 e6
 obtain ⟨b7,e7,_,z7⟩:=DataW.trod_string Tryz.underlying9 g7
 obtain rfl:v7=_:=List.singleton_inj.1 e7
 obtain ⟨b8,e8,_,z8⟩:=DataW.trod_string Tryz.underlying9 g8
 obtain rfl:v8=_:=List.singleton_inj.1 e8
 rcases open_strings Tryz.underlying28 Tryz.underlying9 (by kernel_rfl) g9 with ⟨hcs,_⟩|⟨x,l,c,zs,hcs,_,hl,hm,hz,_,hcell,hwf⟩
 ·obtain rfl:v9=_:=List.singleton_inj.1 hcs
  exact ⟨⟨b0,b1,b2,b3,b4,b5,b6,b7,b8,[]⟩,.slice none 0 0,rfl,⟨⟨none,0,rfl,.inl rfl⟩,z8,z6,z7,Nat.zero_le _,fun t ht=>by cases ht⟩,⟨none,0,0,rfl,Nat.le_refl _⟩⟩
 ·obtain rfl:v9=_:=List.singleton_inj.1 hcs
  exact ⟨⟨b0,b1,b2,b3,b4,b5,b6,b7,b8,zs.take l⟩,.slice (some x) l c,rfl,⟨strs_of hl (by simpa using hz) hcell,z8,z6,z7,by have h1:=List.length_take_le l zs;simp at hz;show (zs.take l).length≤maxLen;omega,fun t ht=>hwf t (List.mem_of_mem_take ht)⟩,⟨some x,l,c,rfl,hl⟩⟩
end Go.Proofs.YtnemlgfldfedpaaGreatDoor
namespace Go.Proofs.YtnemlgfldfedpaaGreatDoor
open Go.RowKit Go.Deep
def StrTo (s:ByteArray) (W:World) (e:Ending) (w':World):Prop:=e = .returned (.string s)∧Below W.heap.size W w'
theorem rnum_at (n:Nat) (N:Int) (hN:N=(n:Int)) (x:Int) (s:ByteArray) (hn:n≤7) (h0:0≤x) (hx:x≤1099511627776) (hs:s=⟨(Oc.numB n x.toNat).toArray⟩) (W:World):Calls Tryz.prog 62 #[.int .i64 N,.int .i64 x] W (StrTo s W):=by
 subst hs
 subst hN
 have e:((x.toNat:Nat):Int)=x:=Int.toNat_of_nonneg h0
 have:=Oc.refNum_any n x.toNat W hn (by omega)
 rw [e] at this
 exact this
theorem rtext_at (x s:ByteArray) (hx:x.size≤100000000) (hs:s=⟨(Oc.txtB x).toArray⟩) (W:World):Calls Tryz.prog 63 #[.string x] W (StrTo s W):=by
 subst hs
 exact Oc.refText_any x W hx
theorem size_ofL (l:List UInt8):(⟨l.toArray⟩:ByteArray).size=l.length:=by simp [ByteArray.size]
theorem below_on {B:Nat} {w w1 w2:World} (hb:Below w1.heap.size w1 w2) (h:Below B w w1) (hB:B≤w.heap.size):Below B w w2:=h.trans (hb.mono (Nat.le_trans hB h.size))
theorem cells_on {w1 w2:World} (hb:Below w1.heap.size w1 w2) {b:Nat} {cs:Array Value} (h:∀ i,w1.cell? ⟨b,i,none⟩=cs[i]?) (h0:0<cs.size):∀ i,w2.cell? ⟨b,i,none⟩=cs[i]?:=fun i=>
 (hb.cell (p:=⟨b,i,none⟩) (World.block_lt_of_cell? (a:=⟨b,0,none⟩) (h:=(h 0).trans (Array.getElem?_eq_getElem h0)))).trans (h i)
theorem add_at (s u:ByteArray) (hs:s.size≤100000) (hu:u.size≤100000):∀ W,(Op.stringOp .add s u).run Tryz.prog W = .ok (.string (s ++ u)) W:=fun W=>run_string_add W s u (by omega) (by omega)
theorem app_size (s u:ByteArray):(s ++ u).size=s.size+u.size:=by simp
set_option maxHeartbeats 8000000 in
set_option maxRecDepth 100000 in
theorem rput_rec (m:MsgM) (vk:Value) (w:World) (hk:Strs w 0 vk m.keys) (hb:Bd m) :
 Calls Tryz.prog 31 #[m.val vk] w (StrTo ⟨(recB m).toArray⟩ w):=by
 have hkl:∀ W,Below w.heap.size w W→∀ s,s=(⟨(Oc.listB m.keys).toArray⟩:ByteArray)→Calls Tryz.prog 64 #[vk] W (StrTo s W):=fun W hW s hs=>by
  subst hs
  exact Oc.refList_any vk m.keys W (hk.below hW (Nat.le_refl _)) (by have:=hb.many;omega) (fun t ht=>by have:=hb.keys t ht;omega)
 have hbk:=hb.kind
 have hll:=listB_le hb.many hb.keys
 have hpl:=packB_le hb
 obtain ⟨n1,hn1⟩:∃ s,s=(⟨(Oc.numB 1 m.kind.toNat).toArray⟩:ByteArray):=⟨_,rfl⟩
 have zn1:n1.size=1:=by rw [hn1,size_ofL];exact Oc.numB_length _ _
 have Hn1:=Lib.hid hn1
 obtain ⟨n2,hn2⟩:∃ s,s=(⟨(Oc.numB 1 m.queue.toNat).toArray⟩:ByteArray):=⟨_,rfl⟩
 have zn2:n2.size=1:=by rw [hn2,size_ofL];exact Oc.numB_length _ _
 have Hn2:=Lib.hid hn2
 obtain ⟨n3,hn3⟩:∃ s,s=(⟨(Oc.numB 1 m.retry.toNat).toArray⟩:ByteArray):=⟨_,rfl⟩
 have zn3:n3.size=1:=by rw [hn3,size_ofL];exact Oc.numB_length _ _
 have Hn3:=Lib.hid hn3
 obtain ⟨n4,hn4⟩:∃ s,s=(⟨(Oc.numB 6 m.born.toNat).toArray⟩:ByteArray):=⟨_,rfl⟩
 have zn4:n4.size=6:=by rw [hn4,size_ofL];exact Oc.numB_length _ _
 have Hn4:=Lib.hid hn4
 obtain ⟨n5,hn5⟩:∃ s,s=(⟨(Oc.numB 6 m.due.toNat).toArray⟩:ByteArray):=⟨_,rfl⟩
 have zn5:n5.size=6:=by rw [hn5,size_ofL];exact Oc.numB_length _ _
 have Hn5:=Lib.hid hn5
 obtain ⟨n6,hn6⟩:∃ s,s=(⟨(Oc.numB 6 m.ref.toNat).toArray⟩:ByteArray):=⟨_,rfl⟩
 have zn6:n6.size=6:=by rw [hn6,size_ofL];exact Oc.numB_length _ _
 have Hn6:=Lib.hid hn6
 obtain ⟨x1,hx1⟩:∃ s,s=(⟨(Oc.txtB m.topic).toArray⟩:ByteArray):=⟨_,rfl⟩
 have zx1:x1.size=2+m.topic.size:=by rw [hx1,size_ofL];exact Oc.txtB_length _
 have Hx1:=Lib.hid hx1
 obtain ⟨x2,hx2⟩:∃ s,s=(⟨(Oc.txtB m.tag).toArray⟩:ByteArray):=⟨_,rfl⟩
 have zx2:x2.size=2+m.tag.size:=by rw [hx2,size_ofL];exact Oc.txtB_length _
 have Hx2:=Lib.hid hx2
 obtain ⟨x3,hx3⟩:∃ s,s=(⟨(Oc.txtB m.body).toArray⟩:ByteArray):=⟨_,rfl⟩
 have zx3:x3.size=2+m.body.size:=by rw [hx3,size_ofL];exact Oc.txtB_length _
 have Hx3:=Lib.hid hx3
 obtain ⟨x4,hx4⟩:∃ s,s=(⟨(Oc.listB m.keys).toArray⟩:ByteArray):=⟨_,rfl⟩
 have zx4:x4.size≤55:=by rw [hx4,size_ofL];exact hll
 have Hx4:=Lib.hid hx4
 have Cn1:=Lib.hid (rnum_at 1 1 rfl m.kind n1 (by decide) (by have:=hb.kind;omega) (by have:=hb.kind;omega) hn1)
 have Cn2:=Lib.hid (rnum_at 1 1 rfl m.queue n2 (by decide) (by have:=hb.queue;omega) (by have:=hb.queue;omega) hn2)
 have Cn3:=Lib.hid (rnum_at 1 1 rfl m.retry n3 (by decide) (by have:=hb.retry;omega) (by have:=hb.retry;omega) hn3)
 have Cn4:=Lib.hid (rnum_at 6 6 rfl m.born n4 (by decide) (by have:=hb.born;omega) (by have:=hb.born;omega) hn4)
 have Cn5:=Lib.hid (rnum_at 6 6 rfl m.due n5 (by decide) (by have:=hb.due;omega) (by have:=hb.due;omega) hn5)
 have Cn6:=Lib.hid (rnum_at 6 6 rfl m.ref n6 (by decide) (by have:=hb.ref;omega) (by have:=hb.ref;omega) hn6)
 have Cx1:=Lib.hid (rtext_at m.topic x1 (by have:=hb.topic;omega) hx1)
 have Cx2:=Lib.hid (rtext_at m.tag x2 (by have:=hb.tag;omega) hx2)
 have Cx3:=Lib.hid (rtext_at m.body x3 (by have:=hb.body;omega) hx3)
 have CL:Hid (∀ W,Below w.heap.size w W→Calls Tryz.prog 64 #[vk] W (StrTo x4 W)):=Lib.hid fun W hW=>hkl W hW x4 hx4
 have ztop:=hb.topic
 have ztag:=hb.tag
 have zbody:=hb.body
 have hpk:(((((((((n1 ++ n2) ++ n3) ++ n4) ++ n5) ++ n6) ++ x1) ++ x2) ++ x3) ++ x4)=⟨(packB m).toArray⟩:=by
  rw [hn1,hn2,hn3,hn4,hn5,hn6,hx1,hx2,hx3,hx4,packB_eq]
  simp only [append_toArray,List.append_assoc,List.append_nil]
 obtain ⟨p2,hp2⟩:∃ s,s=n1 ++ n2:=⟨_,rfl⟩
 have zp2:p2.size=n1.size+n2.size:=by rw [hp2,app_size]
 have Ap2:=add_at n1 n2 (by omega) (by omega)
 rw [←hp2] at Ap2 hpk
 have Ep2:=Lib.hid Ap2
 clear Ap2
 obtain ⟨p3,hp3⟩:∃ s,s=p2 ++ n3:=⟨_,rfl⟩
 have zp3:p3.size=p2.size+n3.size:=by rw [hp3,app_size]
 have Ap3:=add_at p2 n3 (by omega) (by omega)
 rw [←hp3] at Ap3 hpk
 have Ep3:=Lib.hid Ap3
 clear Ap3
 obtain ⟨p4,hp4⟩:∃ s,s=p3 ++ n4:=⟨_,rfl⟩
 have zp4:p4.size=p3.size+n4.size:=by rw [hp4,app_size]
 have Ap4:=add_at p3 n4 (by omega) (by omega)
 rw [←hp4] at Ap4 hpk
 have Ep4:=Lib.hid Ap4
 clear Ap4
 obtain ⟨p5,hp5⟩:∃ s,s=p4 ++ n5:=⟨_,rfl⟩
 have zp5:p5.size=p4.size+n5.size:=by rw [hp5,app_size]
 have Ap5:=add_at p4 n5 (by omega) (by omega)
 rw [←hp5] at Ap5 hpk
 have Ep5:=Lib.hid Ap5
 clear Ap5
 obtain ⟨p6,hp6⟩:∃ s,s=p5 ++ n6:=⟨_,rfl⟩
 have zp6:p6.size=p5.size+n6.size:=by rw [hp6,app_size]
 have Ap6:=add_at p5 n6 (by omega) (by omega)
 rw [←hp6] at Ap6 hpk
 have Ep6:=Lib.hid Ap6
 clear Ap6
 obtain ⟨p7,hp7⟩:∃ s,s=p6 ++ x1:=⟨_,rfl⟩
 have zp7:p7.size=p6.size+x1.size:=by rw [hp7,app_size]
 have Ap7:=add_at p6 x1 (by omega) (by omega)
 rw [←hp7] at Ap7 hpk
 have Ep7:=Lib.hid Ap7
 clear Ap7
 obtain ⟨p8,hp8⟩:∃ s,s=p7 ++ x2:=⟨_,rfl⟩
 have zp8:p8.size=p7.size+x2.size:=by rw [hp8,app_size]
 have Ap8:=add_at p7 x2 (by omega) (by omega)
 rw [←hp8] at Ap8 hpk
 have Ep8:=Lib.hid Ap8
 clear Ap8
 obtain ⟨p9,hp9⟩:∃ s,s=p8 ++ x3:=⟨_,rfl⟩
 have zp9:p9.size=p8.size+x3.size:=by rw [hp9,app_size]
 have Ap9:=add_at p8 x3 (by omega) (by omega)
 rw [←hp9] at Ap9 hpk
 have Ep9:=Lib.hid Ap9
 clear Ap9
 obtain ⟨p10,hp10⟩:∃ s,s=p9 ++ x4:=⟨_,rfl⟩
 have zp10:p10.size=p9.size+x4.size:=by rw [hp10,app_size]
 have Ap10:=add_at p9 x4 (by omega) (by omega)
 rw [←hp10] at Ap10 hpk
 have Ep10:=Lib.hid Ap10
 clear Ap10
 obtain ⟨L,hL⟩:∃ L,L=Cr.sealB ⟨(packB m).toArray⟩:=⟨_,rfl⟩
 have hLl:L.length=4+(packB m).length:=by rw [hL];unfold Cr.sealB;rw [List.length_append,numB_length]
 obtain ⟨S,hS⟩:∃ S,S=(⟨L.toArray⟩:ByteArray):=⟨_,rfl⟩
 have zS:S.size=L.length:=by rw [hS,size_ofL]
 have CS:Hid (∀ W,Calls Tryz.prog 65 #[.string p10] W (StrTo S W)):=Lib.hid fun W=>by
  have:=Cr.refSeal_any p10 W (by rw [hpk,size_ofL];omega)
  rw [hpk] at this ⊢
  rw [hS,hL]
  exact this
 obtain ⟨u,hu⟩:∃ s,s=(⟨(Oc.numB 2 (3+L.length)).toArray⟩:ByteArray):=⟨_,rfl⟩
 have zu:u.size=2:=by rw [hu,size_ofL];exact Oc.numB_length _ _
 have CU:Hid (∀ W,Calls Tryz.prog 62 #[.int .i64 2,.int .i64 (3+(S.size:Int))] W (StrTo u W)):=Lib.hid fun W=>rnum_at 2 2 rfl (3+(S.size:Int)) u (by decide) (by omega) (by omega) (by rw [hu,zS];congr 2) W
 have hfin:((⟨#[165]⟩:ByteArray) ++ u) ++ S=⟨(recB m).toArray⟩:=by
  rw [hu,hS,show (⟨#[165]⟩:ByteArray)=⟨[165].toArray⟩ from rfl,append_toArray,append_toArray]
  unfold recB frameB
  rw [←hL]
  rfl
 have zk:(⟨#[165]⟩:ByteArray).size=1:=rfl
 have A1:=add_at ⟨#[165]⟩ u (by omega) (by omega)
 obtain ⟨q1,hq1⟩:∃ s,s=(⟨#[165]⟩:ByteArray) ++ u:=⟨_,rfl⟩
 have zq1:q1.size=3:=by rw [hq1,app_size,zk,zu]
 rw [←hq1] at A1 hfin
 have A2:=add_at q1 S (by omega) (by omega)
 rw [hfin] at A2
 have HA1:=Lib.hid A1
 have HA2:=Lib.hid A2
 have hs8:(S.size:Int)≤100000:=by omega
 obtain ⟨FIN,hFIN⟩:∃ s,s=(⟨(recB m).toArray⟩:ByteArray):=⟨_,rfl⟩
 rw [←hFIN] at HA2 ⊢
 obtain ⟨a,cap,rfl⟩:=hk.form
 have hB0:Below w.heap.size w (w.alloc (.cells #[.int .i64 m.kind,.int .i64 m.queue,.int .i64 m.due,.int .i64 m.retry,.int .i64 m.ref,.int .i64 m.born,.string m.topic,.string m.tag,.string m.body,.slice a m.keys.length cap] 30)):=(Below.refl w.heap.size w).alloc (Nat.le_refl _) _
 have hk0:∀ i,(w.alloc (.cells #[.int .i64 m.kind,.int .i64 m.queue,.int .i64 m.due,.int .i64 m.retry,.int .i64 m.ref,.int .i64 m.born,.string m.topic,.string m.tag,.string m.body,.slice a m.keys.length cap] 30)).cell? ⟨w.heap.size,i,none⟩=(#[.int .i64 m.kind,.int .i64 m.queue,.int .i64 m.due,.int .i64 m.retry,.int .i64 m.ref,.int .i64 m.born,.string m.topic,.string m.tag,.string m.body,.slice a m.keys.length cap]:Array Value)[i]?:=(Box.new w _).cell
 obtain ⟨W0,hW0⟩:∃ W,W=w.alloc (.cells #[.int .i64 m.kind,.int .i64 m.queue,.int .i64 m.due,.int .i64 m.retry,.int .i64 m.ref,.int .i64 m.born,.string m.topic,.string m.tag,.string m.body,.slice a m.keys.length cap] 30):=⟨_,rfl⟩
 rw [←hW0] at hB0 hk0
 have HB0:=Lib.hid hB0
 have HK0:=Lib.hid hk0
 have HW0:=Lib.hid hW0
 have hkd:(m.kind == 0)=false:=by have:=hb.kind;simp;omega
 clear hkl hb hll hpl hpk hL hLl hS zS hu hfin hq1 A1 A2 hFIN hB0 hk0 hW0 hk hbk
 clear hn1 hn2 hn3 hn4 hn5 hn6 hx1 hx2 hx3 hx4 hp2 hp3 hp4 hp5 hp6 hp7 hp8 hp9 hp10 zn1 zn2 zn3 zn4 zn5 zn6 zx1 zx2 zx3 zx4 zp2 zp3 zp4 zp5 zp6 zp7 zp8 zp9 zp10 zu zk zq1 ztop ztag zbody
 unfold MsgM.val MsgM.cells
 go_enter Tryz.func31,Tryz.ntmps31
 go_upto_region 5 with fail
 rw [←HW0.out]
 go_cut [3] (fun v wx=>v = .string p3∧Below w.heap.size w wx∧Hid (∀ i,wx.cell? ⟨w.heap.size,i,none⟩=(#[.int .i64 m.kind,.int .i64 m.queue,.int .i64 m.due,.int .i64 m.retry,.int .i64 m.ref,.int .i64 m.born,.string m.topic,.string m.tag,.string m.body,.slice a m.keys.length cap]:Array Value)[i]?))
 case first=>
  have k0:=HK0.out
  have fp2:=Ep2.out
  have fp3:=Ep3.out
  go_region_held3 (fun w'=>∀ i,w'.cell? ⟨w.heap.size,i,none⟩=(#[.int .i64 m.kind,.int .i64 m.queue,.int .i64 m.due,.int .i64 m.retry,.int .i64 m.ref,.int .i64 m.born,.string m.topic,.string m.tag,.string m.body,.slice a m.keys.length cap]:Array Value)[i]?)
   (first|exact k0|go_keep)
   (first
   | (go_at_call 62
      ((with_reducible refine (Cn1.out _).mono ?_))
      rintro e wn1 ⟨rfl,hb⟩
      have k0:=cells_on hb k0 (Nat.zero_lt_succ _)
      have HBn1:=Lib.hid hb
      clear hb)
   | (go_at_call 62
      ((with_reducible refine (Cn2.out _).mono ?_))
      rintro e wn2 ⟨rfl,hb⟩
      have k0:=cells_on hb k0 (Nat.zero_lt_succ _)
      have HBn2:=Lib.hid hb
      clear hb)
   | (go_at_call 62
      ((with_reducible refine (Cn3.out _).mono ?_))
      rintro e wn3 ⟨rfl,hb⟩
      have k0:=cells_on hb k0 (Nat.zero_lt_succ _)
      have HBn3:=Lib.hid hb
      clear hb))
  all_goals
   go_wp2_with fail
   go_meet
   case rel=>exact ⟨rfl,by repeat (first|exact HB0.out|with_reducible refine below_drewN ?_ _|with_reducible refine below_drew2 ?_|refine below_on HBn1.out ?_ (Nat.le_refl _)|refine below_on HBn2.out ?_ (Nat.le_refl _)|refine below_on HBn3.out ?_ (Nat.le_refl _)),Lib.hid k0⟩
 case rest=>
 obtain ⟨rfl,hbR5,hkR5⟩:=hcut
 have HBR5:=Lib.hid hbR5
 have HKR5:=hkR5
 clear hbR5 hkR5
 go_upto_region 6 with fail
 go_cut [3] (fun v wx=>v = .string p6∧Below w.heap.size w wx∧Hid (∀ i,wx.cell? ⟨w.heap.size,i,none⟩=(#[.int .i64 m.kind,.int .i64 m.queue,.int .i64 m.due,.int .i64 m.retry,.int .i64 m.ref,.int .i64 m.born,.string m.topic,.string m.tag,.string m.body,.slice a m.keys.length cap]:Array Value)[i]?))
 case first=>
  have k0:=HKR5.out
  have fp4:=Ep4.out
  have fp5:=Ep5.out
  have fp6:=Ep6.out
  go_region_held3 (fun w'=>∀ i,w'.cell? ⟨w.heap.size,i,none⟩=(#[.int .i64 m.kind,.int .i64 m.queue,.int .i64 m.due,.int .i64 m.retry,.int .i64 m.ref,.int .i64 m.born,.string m.topic,.string m.tag,.string m.body,.slice a m.keys.length cap]:Array Value)[i]?)
   (first|exact k0|go_keep)
   (first
   | (go_at_call 62
      ((with_reducible refine (Cn4.out _).mono ?_))
      rintro e wn4 ⟨rfl,hb⟩
      have k0:=cells_on hb k0 (Nat.zero_lt_succ _)
      have HBn4:=Lib.hid hb
      clear hb)
   | (go_at_call 62
      ((with_reducible refine (Cn5.out _).mono ?_))
      rintro e wn5 ⟨rfl,hb⟩
      have k0:=cells_on hb k0 (Nat.zero_lt_succ _)
      have HBn5:=Lib.hid hb
      clear hb)
   | (go_at_call 62
      ((with_reducible refine (Cn6.out _).mono ?_))
      rintro e wn6 ⟨rfl,hb⟩
      have k0:=cells_on hb k0 (Nat.zero_lt_succ _)
      have HBn6:=Lib.hid hb
      clear hb))
  all_goals
   go_wp2_with fail
   go_meet
   case rel=>exact ⟨rfl,by repeat (first|exact HBR5.out|with_reducible refine below_drewN ?_ _|with_reducible refine below_drew2 ?_|refine below_on HBn4.out ?_ (Nat.le_refl _)|refine below_on HBn5.out ?_ (Nat.le_refl _)|refine below_on HBn6.out ?_ (Nat.le_refl _)),Lib.hid k0⟩
 case rest=>
 obtain ⟨rfl,hbR6,hkR6⟩:=hcut
 have HBR6:=Lib.hid hbR6
 have HKR6:=hkR6
 clear hbR6 hkR6
 go_upto_region 7 with fail
 go_cut [3] (fun v wx=>v = .string p10∧Below w.heap.size w wx∧Hid (∀ i,wx.cell? ⟨w.heap.size,i,none⟩=(#[.int .i64 m.kind,.int .i64 m.queue,.int .i64 m.due,.int .i64 m.retry,.int .i64 m.ref,.int .i64 m.born,.string m.topic,.string m.tag,.string m.body,.slice a m.keys.length cap]:Array Value)[i]?))
 case first=>
  have k0:=HKR6.out
  have fp7:=Ep7.out
  have fp8:=Ep8.out
  have fp9:=Ep9.out
  have fp10:=Ep10.out
  go_region_held3 (fun w'=>∀ i,w'.cell? ⟨w.heap.size,i,none⟩=(#[.int .i64 m.kind,.int .i64 m.queue,.int .i64 m.due,.int .i64 m.retry,.int .i64 m.ref,.int .i64 m.born,.string m.topic,.string m.tag,.string m.body,.slice a m.keys.length cap]:Array Value)[i]?)
   (first|exact k0|go_keep)
   (first
   | (go_at_call 63
      ((with_reducible refine (Cx1.out _).mono ?_))
      rintro e wx1 ⟨rfl,hb⟩
      have k0:=cells_on hb k0 (Nat.zero_lt_succ _)
      have HBx1:=Lib.hid hb
      clear hb)
   | (go_at_call 63
      ((with_reducible refine (Cx2.out _).mono ?_))
      rintro e wx2 ⟨rfl,hb⟩
      have k0:=cells_on hb k0 (Nat.zero_lt_succ _)
      have HBx2:=Lib.hid hb
      clear hb)
   | (go_at_call 63
      ((with_reducible refine (Cx3.out _).mono ?_))
      rintro e wx3 ⟨rfl,hb⟩
      have k0:=cells_on hb k0 (Nat.zero_lt_succ _)
      have HBx3:=Lib.hid hb
      clear hb)
   | (go_at_call 64
      ((with_reducible refine (CL.out _ ?_).mono ?_))
      ·repeat (first|exact HBR6.out|with_reducible refine below_drewN ?_ _|with_reducible refine below_drew2 ?_|refine below_on HBx1.out ?_ (Nat.le_refl _)|refine below_on HBx2.out ?_ (Nat.le_refl _)|refine below_on HBx3.out ?_ (Nat.le_refl _))
      rintro e wx4 ⟨rfl,hb⟩
      have k0:=cells_on hb k0 (Nat.zero_lt_succ _)
      have HBx4:=Lib.hid hb
      clear hb))
  all_goals
   go_wp2_with fail
   go_meet
   case rel=>exact ⟨rfl,by repeat (first|exact HBR6.out|with_reducible refine below_drewN ?_ _|with_reducible refine below_drew2 ?_|refine below_on HBx1.out ?_ (Nat.le_refl _)|refine below_on HBx2.out ?_ (Nat.le_refl _)|refine below_on HBx3.out ?_ (Nat.le_refl _)|refine below_on HBx4.out ?_ (Nat.le_refl _)),Lib.hid k0⟩
 case rest=>
 obtain ⟨rfl,hbR7,hkR7⟩:=hcut
 have HBR7:=Lib.hid hbR7
 have HKR7:=hkR7
 clear hbR7 hkR7
 go_wp2_with fail
 refine (CS.out _).mono ?_
 rintro e w8 ⟨rfl,hb⟩
 have HB8:=Lib.hid (below_on hb HBR7.out (Nat.le_refl _))
 clear hb
 have f1:=HA1.out
 have f2:=HA2.out
 go_wp2_with fail
 refine (CU.out _).mono ?_
 rintro e w9 ⟨rfl,hb⟩
 have HB9:=Lib.hid (below_on hb HB8.out (Nat.le_refl _))
 clear hb
 go_wp2_with fail
 go_ret
 exact ⟨rfl,HB9.out⟩
set_option maxHeartbeats 4000000 in
set_option maxRecDepth 100000 in
theorem rput_fill (m:MsgM) (vk:Value) (w:World) (hk:Strs w 0 vk m.keys) (hr:rightB m=true) (hk0:m.kind=0) :
 Calls Tryz.prog 31 #[m.val vk] w (StrTo ⟨((putO m).getD []).toArray⟩ w):=by
 obtain ⟨h1024,hbody,e1,e2,e3⟩:=fill_body hr hk0
 clear e1 e2 e3
 obtain ⟨a,cap,rfl⟩:=hk.form
 have hB0:Below w.heap.size w (w.alloc (.cells #[.int .i64 m.kind,.int .i64 m.queue,.int .i64 m.due,.int .i64 m.retry,.int .i64 m.ref,.int .i64 m.born,.string m.topic,.string m.tag,.string m.body,.slice a m.keys.length cap] 30)):=(Below.refl w.heap.size w).alloc (Nat.le_refl _) _
 have hk1:∀ i,(w.alloc (.cells #[.int .i64 m.kind,.int .i64 m.queue,.int .i64 m.due,.int .i64 m.retry,.int .i64 m.ref,.int .i64 m.born,.string m.topic,.string m.tag,.string m.body,.slice a m.keys.length cap] 30)).cell? ⟨w.heap.size,i,none⟩=(#[.int .i64 m.kind,.int .i64 m.queue,.int .i64 m.due,.int .i64 m.retry,.int .i64 m.ref,.int .i64 m.born,.string m.topic,.string m.tag,.string m.body,.slice a m.keys.length cap]:Array Value)[i]?:=(Box.new w _).cell
 obtain ⟨W0,hW0⟩:∃ W,W=w.alloc (.cells #[.int .i64 m.kind,.int .i64 m.queue,.int .i64 m.due,.int .i64 m.retry,.int .i64 m.ref,.int .i64 m.born,.string m.topic,.string m.tag,.string m.body,.slice a m.keys.length cap] 30):=⟨_,rfl⟩
 rw [←hW0] at hB0 hk1
 have HB0:=Lib.hid hB0
 have HK0:=Lib.hid hk1
 have HW0:=Lib.hid hW0
 have hkd:(m.kind == 0)=true:=by simpa using hk0
 unfold MsgM.val MsgM.cells
 by_cases h3:m.body.size<3
 ·have hp:putO m=none:=by unfold putO;rw [if_pos hr,if_neg (by simpa using hk0),if_neg (by omega)]
  have HP:=Lib.hid hp
  have h3':(m.body.size:Int)<3:=by omega
  clear hp hk1 hB0 hW0 hk hr hk0 hbody
  go_enter Tryz.func31,Tryz.ntmps31
  go_wp2_with fail
  rw [←HW0.out]
  go_ret
  exact ⟨by rw [HP.out];rfl,HB0.out⟩
 ·have hp:putO m=some (fillB m.body.size):=by unfold putO;rw [if_pos hr,if_neg (by simpa using hk0),if_pos (by omega)]
  obtain ⟨n,hn⟩:∃ n,n=m.body.size:=⟨_,rfl⟩
  obtain ⟨u,hu⟩:∃ s,s=(⟨(Oc.numB 2 n).toArray⟩:ByteArray):=⟨_,rfl⟩
  have zu:u.size=2:=by rw [hu,size_ofL];exact Oc.numB_length _ _
  obtain ⟨t,ht⟩:∃ t,t=m.body.extract 3 m.body.size:=⟨_,rfl⟩
  have htl:t=⟨(List.replicate (n - 3) (0:UInt8)).toArray⟩:=by
   rw [ht,←hn,hbody,←hn]
   have e:=Oc.extract_of (List.replicate n (0:UInt8)) 3 n
   rw [show (nots n)=(⟨(List.replicate n (0:UInt8)).toArray⟩:ByteArray) from rfl,e,List.take_of_length_le (by simp),List.drop_replicate]
  have zt:t.size=n - 3:=by rw [htl,size_ofL,List.length_replicate]
  have CU:Hid (∀ W,Calls Tryz.prog 62 #[.int .i64 2,.int .i64 (m.body.size:Int)] W (StrTo u W)):=Lib.hid fun W=>rnum_at 2 2 rfl (m.body.size:Int) u (by decide) (by omega) (by omega) (by rw [hu,hn];rfl) W
  have hfin:((⟨#[90]⟩:ByteArray) ++ u) ++ t=⟨(fillB n).toArray⟩:=by
   rw [hu,htl,show (⟨#[90]⟩:ByteArray)=⟨[90].toArray⟩ from rfl,append_toArray,append_toArray]
   unfold fillB frameB
   rw [List.length_replicate,show 3+(n - 3)=n from by omega]
   rfl
  have zk:(⟨#[90]⟩:ByteArray).size=1:=rfl
  have A1:=add_at ⟨#[90]⟩ u (by omega) (by omega)
  obtain ⟨q1,hq1⟩:∃ s,s=(⟨#[90]⟩:ByteArray) ++ u:=⟨_,rfl⟩
  have zq1:q1.size=3:=by rw [hq1,app_size,zk,zu]
  rw [←hq1] at A1 hfin
  have A2:=add_at q1 t (by omega) (by omega)
  rw [hfin] at A2
  obtain ⟨FIN,hFIN⟩:∃ s,s=(⟨(fillB n).toArray⟩:ByteArray):=⟨_,rfl⟩
  rw [←hFIN] at A2
  have HA1:=Lib.hid A1
  have HA2:=Lib.hid A2
  have HP:Hid ((⟨((putO m).getD []).toArray⟩:ByteArray)=FIN):=Lib.hid (by rw [hp,hFIN,hn];rfl)
  have HT:=Lib.hid ht
  have h3':¬ (m.body.size:Int)<3:=by omega
  have h3a:(3:Int)≤(m.body.size:Int):=by omega
  have h3b:3≤m.body.size:=by omega
  have h3c:decide ((m.body.size:Int)<3)=false:=decide_eq_false h3'
  clear hp hk1 hB0 hW0 hk hr hk0 hbody hu zu htl zt hfin zk A1 A2 hq1 zq1 hFIN ht hn h3
  go_enter Tryz.func31,Tryz.ntmps31
  go_wp2_with fail
  rw [←HW0.out]
  have k0:=HK0.out
  have f1:=HA1.out
  have f2:∀ W,(Op.stringOp .add q1 (m.body.extract 3 m.body.size)).run Tryz.prog W = .ok (.string FIN) W:=by rw [←HT.out];exact HA2.out
  go_region_held3 (fun w'=>∀ i,w'.cell? ⟨w.heap.size,i,none⟩=(#[.int .i64 m.kind,.int .i64 m.queue,.int .i64 m.due,.int .i64 m.retry,.int .i64 m.ref,.int .i64 m.born,.string m.topic,.string m.tag,.string m.body,.slice a m.keys.length cap]:Array Value)[i]?)
   (first|exact k0|go_keep)
   (first
   | (go_at_call 62
      ((with_reducible refine (CU.out _).mono ?_))
      rintro e wu ⟨rfl,hb⟩
      have k0:=cells_on hb k0 (Nat.zero_lt_succ _)
      have HBu:=Lib.hid hb
      clear hb))
  all_goals
   go_wp2_with fail
   go_ret
   exact ⟨by rw [HP.out];rfl,by repeat (first|exact HB0.out|with_reducible refine below_drewN ?_ _|with_reducible refine below_drew2 ?_|refine below_on HBu.out ?_ (Nat.le_refl _))⟩
theorem rput_any (m:MsgM) (vk:Value) (w:World) (hk:Strs w 0 vk m.keys) (hr:rightB m=true) :
 Calls Tryz.prog 31 #[m.val vk] w (StrTo ⟨((putO m).getD []).toArray⟩ w):=by
 by_cases hk0:m.kind=0
 ·exact rput_fill m vk w hk hr hk0
 ·have hp:putO m=some (recB m):=by unfold putO;rw [if_pos hr,if_pos hk0]
  rw [hp]
  exact rput_rec m vk w hk (right_bd hr hk0)
def BoolTo (x:Bool) (W:World) (e:Ending) (w':World):Prop:=e = .returned (.bool x)∧Below W.heap.size W w'
end Go.Proofs.YtnemlgfldfedpaaGreatDoor
