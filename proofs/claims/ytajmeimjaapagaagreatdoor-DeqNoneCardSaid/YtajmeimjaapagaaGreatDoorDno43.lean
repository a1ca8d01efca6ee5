/- A part. -/
import Derived.Lib.SmallJoins
import Derived.Test.YtajmeimjaapagaaGreatDoorDno42
set_option linter.unusedVariables false
set_option linter.unusedSimpArgs false
namespace Go.Proofs.YtajmeimjaapagaaGreatDoor
open Go.RowKit Go.Deep
structure Fine (m:MsgM):Prop where
 body:m.body.size≤2000
 topic:m.topic.size≤100
 tag:m.tag.size≤100
 many:m.keys.length≤10
 keys:∀ t∈m.keys,t.size≤100
structure Sized (w:World) (p:MsgM×Value):Prop where
 strs:Strs w 0 p.2 p.1.keys
 body:p.1.body.size≤maxLen
 topic:p.1.topic.size≤maxLen
 tag:p.1.tag.size≤maxLen
 many:p.1.keys.length≤maxLen
 keys:∀ t∈p.1.keys,t.size≤maxLen
def GreatTo (ms:List (MsgM×Value)) (w:World) (e:Ending) (w':World):Prop:=∃ x,e = .returned (.bool x)∧(x=false→∀ p∈ms,Fine p.1)∧Below w.heap.size w w'
theorem take_more {ts:List ByteArray} {j:Nat} {t:ByteArray} {n:Nat} (h:∀ t∈ts.take j,t.size≤n) (hj:ts[j]? = some t) (ht:t.size≤n):∀ t∈ts.take (j+1),t.size≤n:=by
 intro u hu
 rw [List.take_add_one,hj] at hu
 rcases List.mem_append.1 hu with hu|hu
 ·exact h u hu
 ·simp only [Option.toList_some,List.mem_singleton] at hu
  rw [hu]
  exact ht
set_option maxHeartbeats 4000000 in
set_option maxRecDepth 100000 in
theorem great_any (ms:List (MsgM×Value)) (b n:Nat) (w:World) (hb:b<w.heap.size) (hn:n=ms.length) (hn2:n≤1000) (hs:∀ p∈ms,Sized w p)
 (h:∀ k p,ms[k]? = some p→∀ i,i<10→w.cell? ⟨b,k*10+i,none⟩=(p.1.cells p.2)[i]?) :
 Calls Tryz.prog 9 #[.slice (some ⟨b,0,none⟩) n n] w (GreatTo ms w):=by
 have HB:=Lib.hid hb
 have HN:=Lib.hid hn
 have HS:=Lib.hid hs
 have H:=Lib.hid h
 clear hb hn hs h
 go_enter Tryz.func9,Tryz.ntmps9
 go_wp2_with fail
 go_loopw [9] (fun i wr=>∃ k:Nat,k≤n∧i = .int .i64 k∧(∀ j p,j<k→ms[j]? = some p→Fine p.1)∧Below w.heap.size w wr) (fun i _=>n - (intOf i).toNat)
 case atStart=>exact ⟨0,Nat.zero_le _,rfl,fun _ _ h=>absurd h (Nat.not_lt_zero _),Below.refl _ _⟩
 case round=>
  obtain ⟨k,hk,rfl,hfine,hbel⟩:=hrel
  have HF:=Lib.hid hfine
  by_cases hlt:k<n
  ·obtain ⟨p,hp⟩:∃ p,ms[k]? = some p:=⟨_,List.getElem?_eq_getElem (by rw [←HN.out];exact hlt)⟩
   obtain ⟨⟨m1,m2,m3,m4,m5,m6,m7,m8,m9,m10⟩,va⟩:=p
   have hsz:=HS.out _ (List.mem_of_getElem? hp)
   have hst:=hsz.strs
   dsimp only at hst
   obtain ⟨ka,kc,hva⟩:=hst.form
   obtain ⟨kl,hkl⟩:∃ l,l=m10.length:=⟨_,rfl⟩
   rw [←hkl] at hva
   subst hva
   have key:=H.out k _ hp
   have hlow:b<w.heap.size:=HB.out
   have f0:wr.cell? ⟨b,k*10,none⟩=some (.int .i64 m1):=(hbel.cell hlow).trans (by first|(simp [MsgM.cells];done)|simpa [MsgM.cells] using key 0 (by decide))
   have f1:wr.cell? ⟨b,k*10+1,none⟩=some (.int .i64 m2):=(hbel.cell hlow).trans (by first|(simp [MsgM.cells];done)|simpa [MsgM.cells] using key 1 (by decide))
   have f2:wr.cell? ⟨b,k*10+1+1,none⟩=some (.int .i64 m3):=(hbel.cell hlow).trans (by first|(simp [MsgM.cells];done)|simpa [MsgM.cells] using key 2 (by decide))
   have f3:wr.cell? ⟨b,k*10+1+1+1,none⟩=some (.int .i64 m4):=(hbel.cell hlow).trans (by first|(simp [MsgM.cells];done)|simpa [MsgM.cells] using key 3 (by decide))
   have f4:wr.cell? ⟨b,k*10+1+1+1+1,none⟩=some (.int .i64 m5):=(hbel.cell hlow).trans (by first|(simp [MsgM.cells];done)|simpa [MsgM.cells] using key 4 (by decide))
   have f5:wr.cell? ⟨b,k*10+1+1+1+1+1,none⟩=some (.int .i64 m6):=(hbel.cell hlow).trans (by first|(simp [MsgM.cells];done)|simpa [MsgM.cells] using key 5 (by decide))
   have f6:wr.cell? ⟨b,k*10+1+1+1+1+1+1,none⟩=some (.string m7):=(hbel.cell hlow).trans (by first|(simp [MsgM.cells];done)|simpa [MsgM.cells] using key 6 (by decide))
   have f7:wr.cell? ⟨b,k*10+1+1+1+1+1+1+1,none⟩=some (.string m8):=(hbel.cell hlow).trans (by first|(simp [MsgM.cells];done)|simpa [MsgM.cells] using key 7 (by decide))
   have f8:wr.cell? ⟨b,k*10+1+1+1+1+1+1+1+1,none⟩=some (.string m9):=(hbel.cell hlow).trans (by first|(simp [MsgM.cells];done)|simpa [MsgM.cells] using key 8 (by decide))
   have f9:wr.cell? ⟨b,k*10+1+1+1+1+1+1+1+1+1,none⟩=some (.slice ka kl kc):=(hbel.cell hlow).trans (by first|(simp [MsgM.cells];done)|simpa [MsgM.cells] using key 9 (by decide))
   have HP:=Lib.hid hp
   have HST:=Lib.hid (hst.below hbel (Nat.le_refl _))
   have HBEL:=Lib.hid hbel
   have HKL:=Lib.hid hkl
   have q7:=hsz.topic
   have q8:=hsz.tag
   have q9:=hsz.body
   have q10:=hsz.many
   have HKS:=Lib.hid hsz.keys
   dsimp only at q7 q8 q9 q10
   rw [←hkl] at q10
   unfold maxLen at q7 q8 q9 q10
   clear hfine key hsz hst hp hkl hbel hlow
   by_cases h1:(2000:Int)<m9.size
   case pos=>
    go_wp2_with fail
    go_ret
    exact ⟨true,rfl,(by intro h;cases h),below_alloc HBEL.out _⟩
   by_cases h2:(100:Int)<m7.size
   case pos=>
    go_wp2_with fail
    go_ret
    exact ⟨true,rfl,(by intro h;cases h),below_alloc HBEL.out _⟩
   by_cases h3:(100:Int)<m8.size
   case pos=>
    go_wp2_with fail
    go_ret
    exact ⟨true,rfl,(by intro h;cases h),below_alloc HBEL.out _⟩
   by_cases h4:(10:Int)<kl
   case pos=>
    go_wp2_with fail
    go_ret
    exact ⟨true,rfl,(by intro h;cases h),below_alloc HBEL.out _⟩
   go_wp2_with fail
   have HB2:=Lib.hid (below_alloc HBEL.out (.cells #[.int .i64 m1,.int .i64 m2,.int .i64 m3,.int .i64 m4,.int .i64 m5,.int .i64 m6,.string m7,.string m8,.string m9,.slice ka kl kc] 36))
   have HST2:=Lib.hid (HST.out.below ((Below.refl wr.heap.size wr).alloc (Nat.le_refl _) (.cells #[.int .i64 m1,.int .i64 m2,.int .i64 m3,.int .i64 m4,.int .i64 m5,.int .i64 m6,.string m7,.string m8,.string m9,.slice ka kl kc] 36)) (Nat.le_refl _))
   obtain ⟨W2,hW2⟩:∃ W,W=wr.alloc (.cells #[.int .i64 m1,.int .i64 m2,.int .i64 m3,.int .i64 m4,.int .i64 m5,.int .i64 m6,.string m7,.string m8,.string m9,.slice ka kl kc] 36):=⟨_,rfl⟩
   rw [←hW2] at HB2 HST2
   rw [←hW2]
   clear f0 f1 f2 f3 f4 f5 f6 f7 f8 f9 hW2
   go_loopw [38] (fun i wi=>∃ j:Nat,j≤kl∧i = .int .i64 j∧Hid (∀ t∈m10.take j,t.size≤100)∧∃ d,wi=W2.drewN d) (fun i _=>kl - (intOf i).toNat)
   case atStart=>exact ⟨0,Nat.zero_le _,rfl,Lib.hid (by intro t ht;simp at ht),0,rfl⟩
   case round=>
    obtain ⟨j,hj,rfl,HJ,d,rfl⟩:=hrel
    by_cases hjl:j<kl
    ·have hjm:j<m10.length:=by rw [←HKL.out];exact hjl
     obtain ⟨c,o,rfl,hcell⟩:=HST2.out.cellAt hjm
     obtain ⟨t,ht⟩:∃ t,t=m10.getD j ⟨#[]⟩:=⟨_,rfl⟩
     rw [←ht] at hcell
     have htm:m10[j]? = some t:=by rw [ht,List.getD_eq_getElem?_getD,List.getElem?_eq_getElem hjm];rfl
     have hts:=HKS.out t (List.mem_of_getElem? htm)
     unfold maxLen at hts
     have HT:=Lib.hid htm
     clear ht htm
     by_cases h5:(100:Int)<t.size
     ·go_wp2_with fail
      go_ret
      exact ⟨true,rfl,(by intro h;cases h),below_drewN HB2.out _⟩
     ·go_wp2_with fail
      exact ⟨⟨j+1,by omega,by go_num,Lib.hid (take_more HJ.out HT.out (by omega)),_,rfl⟩,by simp [intOf];omega⟩
    ·obtain rfl:j=kl:=by omega
     have hall:∀ t∈m10,t.size≤100:=by
      have:=HJ.out
      rwa [HKL.out,List.take_length] at this
     have HFN:Hid (Fine ⟨m1,m2,m3,m4,m5,m6,m7,m8,m9,m10⟩):=Lib.hid ⟨by dsimp only;omega,by dsimp only;omega,by dsimp only;omega,by have:=HKL.out;dsimp only;omega,hall⟩
     clear hall
     go_wp2_with fail
     refine ⟨⟨k+1,by omega,by go_num,?_,below_drewN HB2.out _⟩,by simp [intOf];omega⟩
     intro j p hj hp
     by_cases e:j<k
     ·exact HF.out j p e hp
     ·obtain rfl:j=k:=by omega
      rw [HP.out] at hp
      cases hp
      exact HFN.out
  ·obtain rfl:k=n:=by omega
   have HALL:Hid (∀ p∈ms,Fine p.1):=Lib.hid fun p hp=>by
    obtain ⟨j,hj,e⟩:=List.getElem_of_mem hp
    exact HF.out j p (by rw [HN.out];exact hj) (by rw [←e];exact List.getElem?_eq_getElem hj)
   clear hfine
   go_wp2_with fail
   go_ret
   exact ⟨false,rfl,fun _=>HALL.out,hbel⟩
end Go.Proofs.YtajmeimjaapagaaGreatDoor
namespace Go.Proofs.YtajmeimjaapagaaGreatDoor
open Go.Joins Go.ChangeShapes Go.WideShapes Go.RowKit Go.Deep
section
variable {H:Type} {enc:TypeId×Value→H} {P:Program} {w:World} {base:Nat} {spare:Nat→Bool} {held:Bool}
theorem open_agg10 {r:Reach} {b0:Nat} {t:TypeId} {f0 f1 f2 f3 f4 f5 f6 f7 f8 f9:Field} {v:Value} {d:DataW H} {p:List MemPlace} (hs:P.underlying t=some (.struct #[f0,f1,f2,f3,f4,f5,f6,f7,f8,f9])) (hone:oneCellFields P #[f0,f1,f2,f3,f4,f5,f6,f7,f8,f9]=true) (hC:P.cellsOf t=10)
 (hv:Value.okWide P w r b0 t v) (h:DataW.Trod enc P w base spare held t v d p) :
 ∃ (v0 v1 v2 v3 v4 v5 v6 v7 v8 v9:Value) (y0 y1 y2 y3 y4 y5 y6 y7 y8 y9:DataW H×List MemPlace) (n:Nat),v = .agg #[v0,v1,v2,v3,v4,v5,v6,v7,v8,v9]∧d = .agg [y0.1,y1.1,y2.1,y3.1,y4.1,y5.1,y6.1,y7.1,y8.1,y9.1]∧p=y0.2 ++ (y1.2 ++ (y2.2 ++ (y3.2 ++ (y4.2 ++ (y5.2 ++ (y6.2 ++ (y7.2 ++ (y8.2 ++ (y9.2))))))))) ∧
  DataW.trod enc P w base spare held n f0.type [v0]=some y0∧DataW.trod enc P w base spare held n f1.type [v1]=some y1∧DataW.trod enc P w base spare held n f2.type [v2]=some y2∧DataW.trod enc P w base spare held n f3.type [v3]=some y3∧DataW.trod enc P w base spare held n f4.type [v4]=some y4∧DataW.trod enc P w base spare held n f5.type [v5]=some y5∧DataW.trod enc P w base spare held n f6.type [v6]=some y6∧DataW.trod enc P w base spare held n f7.type [v7]=some y7∧DataW.trod enc P w base spare held n f8.type [v8]=some y8∧DataW.trod enc P w base spare held n f9.type [v9]=some y9:=by
 obtain ⟨cs,rfl,hsz⟩:=okWide_struct hs hv
 obtain ⟨l⟩:=cs
 match l,hsz.trans hC with
 | [c0,c1,c2,c3,c4,c5,c6,c7,c8,c9],_=>
  obtain ⟨fuel,hf⟩:=h
  obtain ⟨xs,n,_,hx,_,hlen,hg⟩:=DataW.trod_struct hs hf
  obtain ⟨o0,k0⟩:=hone_of hone 0 f0 rfl
  obtain ⟨o1,k1⟩:=hone_of hone 1 f1 rfl
  obtain ⟨o2,k2⟩:=hone_of hone 2 f2 rfl
  obtain ⟨o3,k3⟩:=hone_of hone 3 f3 rfl
  obtain ⟨o4,k4⟩:=hone_of hone 4 f4 rfl
  obtain ⟨o5,k5⟩:=hone_of hone 5 f5 rfl
  obtain ⟨o6,k6⟩:=hone_of hone 6 f6 rfl
  obtain ⟨o7,k7⟩:=hone_of hone 7 f7 rfl
  obtain ⟨o8,k8⟩:=hone_of hone 8 f8 rfl
  obtain ⟨o9,k9⟩:=hone_of hone 9 f9 rfl
  match xs,hlen with
  | [y0,y1,y2,y3,y4,y5,y6,y7,y8,y9],_=>
   simp only [Prod.mk.injEq] at hx
   exact ⟨c0,c1,c2,c3,c4,c5,c6,c7,c8,c9,y0,y1,y2,y3,y4,y5,y6,y7,y8,y9,n,rfl,by simpa using hx.1,by simpa using hx.2,by simpa [Value.cells,o0,k0] using hg 0 f0 rfl,by simpa [Value.cells,o1,k1] using hg 1 f1 rfl,by simpa [Value.cells,o2,k2] using hg 2 f2 rfl,by simpa [Value.cells,o3,k3] using hg 3 f3 rfl,by simpa [Value.cells,o4,k4] using hg 4 f4 rfl,by simpa [Value.cells,o5,k5] using hg 5 f5 rfl,by simpa [Value.cells,o6,k6] using hg 6 f6 rfl,by simpa [Value.cells,o7,k7] using hg 7 f7 rfl,by simpa [Value.cells,o8,k8] using hg 8 f8 rfl,by simpa [Value.cells,o9,k9] using hg 9 f9 rfl⟩
end
set_option maxRecDepth 100000 in
theorem open_msg {H:Type} {enc:TypeId×Value→H} {w:World} {r:Reach} {bb:Nat} {v:Value} {d:DataW H} {p:List MemPlace} (hv:Value.okWide Tryz.prog w r bb 36 v) (h:DataW.Trod enc Tryz.prog w 0 (fun _=>true) true 36 v d p) :
 ∃ (m:MsgM) (vk:Value),v=m.val vk∧Sized w (m,vk)∧CapOk vk:=by
 obtain ⟨v0,v1,v2,v3,v4,v5,v6,v7,v8,v9,y0,y1,y2,y3,y4,y5,y6,y7,y8,y9,n,rfl,hd,hp,g0,g1,g2,g3,g4,g5,g6,g7,g8,g9⟩:=open_agg10 Tryz.underlying36 (by kernel_rfl) (by kernel_rfl) hv h
 obtain ⟨b0,e0,_,_⟩:=DataW.trod_int Tryz.underlying3 g0
 obtain rfl:v0=_:=List.singleton_inj.1 e0
 obtain ⟨b1,e1,_,_⟩:=DataW.trod_int Tryz.underlying3 g1
 obtain rfl:v1=_:=List.singleton_inj.1 e1
 obtain ⟨b2,e2,_,_⟩:=DataW.trod_int Tryz.underlying3 g2
 obtain rfl:v2=_:=List.singleton_inj.1 e2
 obtain ⟨b3,e3,_,_⟩:=DataW.trod_int Tryz.underlying3 g3
 obtain rfl:v3=_:=List.singleton_inj.1 e3
 obtain ⟨b4,e4,_,_⟩:=DataW.trod_int Tryz.underlying3 g4
 obtain rfl:v4=_:=List.singleton_inj.1 e4
 obtain ⟨b5,e5,_,_⟩:=DataW.trod_int Tryz.underlying3 g5
 obtain rfl:v5=_:=List.singleton_inj.1 e5
 obtain ⟨b6,e6,_,z6⟩:=DataW.trod_string Tryz.underlying9 g6
 obtain rfl:v6=_:=List.singleton_inj.1 e6
 obtain ⟨b7,e7,_,z7⟩:=DataW.trod_string Tryz.underlying9 g7
 obtain rfl:v7=_:=List.singleton_inj.1 e7
 obtain ⟨b8,e8,_,z8⟩:=DataW.trod_string Tryz.underlying9 g8
 obtain rfl:v8=_:=List.singleton_inj.1 e8
 rcases open_strings Tryz.underlying34 Tryz.underlying9 (by kernel_rfl) g9 with ⟨hcs,_⟩|⟨x,l,c,zs,hcs,_,hl,hm,hz,_,hcell,hwf⟩
 ·obtain rfl:v9=_:=List.singleton_inj.1 hcs
  exact ⟨⟨b0,b1,b2,b3,b4,b5,b6,b7,b8,[]⟩,.slice none 0 0,rfl,⟨⟨none,0,rfl,.inl rfl⟩,z8,z6,z7,Nat.zero_le _,fun t ht=>by cases ht⟩,⟨none,0,0,rfl,Nat.le_refl _⟩⟩
 ·obtain rfl:v9=_:=List.singleton_inj.1 hcs
  exact ⟨⟨b0,b1,b2,b3,b4,b5,b6,b7,b8,zs.take l⟩,.slice (some x) l c,rfl,⟨strs_of hl (by simpa using hz) hcell,z8,z6,z7,by have h1:=List.length_take_le l zs;simp at hz;show (zs.take l).length≤maxLen;omega,fun t ht=>hwf t (List.mem_of_mem_take ht)⟩,⟨some x,l,c,rfl,hl⟩⟩
end Go.Proofs.YtajmeimjaapagaaGreatDoor
namespace Go.Proofs.YtajmeimjaapagaaGreatDoor
open Go.RowKit Go.Deep
theorem one_msg' (w:World) (a:MsgM) (va:Value):∀ k p,[(a,va)][k]? = some p→∀ i,i<10→(w.alloc (.cells #[.int .i64 a.kind,.int .i64 a.queue,.int .i64 a.due,.int .i64 a.retry,.int .i64 a.ref,.int .i64 a.born,.string a.topic,.string a.tag,.string a.body,va] 36)).cell? ⟨w.heap.size,k*10+i,none⟩=(p.1.cells p.2)[i]?:=by
 intro k p hp i hi
 have hc:∀ j,(w.alloc (.cells #[.int .i64 a.kind,.int .i64 a.queue,.int .i64 a.due,.int .i64 a.retry,.int .i64 a.ref,.int .i64 a.born,.string a.topic,.string a.tag,.string a.body,va] 36)).cell? ⟨w.heap.size,j,none⟩=(#[.int .i64 a.kind,.int .i64 a.queue,.int .i64 a.due,.int .i64 a.retry,.int .i64 a.ref,.int .i64 a.born,.string a.topic,.string a.tag,.string a.body,va]:Array Value)[j]?:=(Box.new w _).cell
 rw [hc]
 match k,hp with
 | 0,hp=>
  simp only [List.getElem?_cons_zero,Option.some.injEq] at hp
  subst hp
  rw [Nat.zero_mul,Nat.zero_add]
  rfl
 | k+1,hp=>simp at hp
end Go.Proofs.YtajmeimjaapagaaGreatDoor
