/- A part. -/
import Derived.Deep.Grids
import Derived.Test.YtldkapjeheiiaaaGreatDoorEpu41
import Derived.Test.YtldkapjeheiiaaaGreatDoorEpu54
set_option linter.unusedVariables false
set_option linter.unusedSimpArgs false
namespace Go.Proofs.YtldkapjeheiiaaaGreatDoor
open Go.Joins Go.ChangeShapes Go.WideShapes Go.RowKit Go.Deep
def MsgsAt (w:World) (v:Value) (ms:List (MsgM×Value)):Prop:=
 ∃ a cap,v = .slice a ms.length cap∧(ms=[]∨∃ b o,a=some ⟨b,o,none⟩∧b<w.heap.size∧∀ k p,ms[k]? = some p→∀ i,i<10→w.cell? ⟨b,o+k*10+i,none⟩=(p.1.cells p.2)[i]?)
set_option maxHeartbeats 4000000 in
set_option maxRecDepth 100000 in
theorem great_o (ms:List (MsgM×Value)) (b o n cap:Nat) (w:World) (hb:b<w.heap.size) (hn:n=ms.length) (hn2:n≤1000) (hs:∀ p∈ms,Sized w p)
 (h:∀ k p,ms[k]? = some p→∀ i,i<10→w.cell? ⟨b,o+k*10+i,none⟩=(p.1.cells p.2)[i]?) :
 Calls Tryz.prog 10 #[.slice (some ⟨b,o,none⟩) n cap] w (GreatTo ms w):=by
 have HB:=Lib.hid hb
 have HN:=Lib.hid hn
 have HS:=Lib.hid hs
 have H:=Lib.hid h
 clear hb hn hs h
 go_enter Tryz.func10,Tryz.ntmps10
 go_wp2_with fail
 go_loopw [9] (fun i wr=>∃ k:Nat,k≤n∧i = .int .i64 k∧(∀ j p,j<k→ms[j]? = some p→Fine p.1)∧Below w.heap.size w wr) (fun i _=>n - (intOf i).toNat)
 case atStart=>exact ⟨0,Nat.zero_le _,rfl,fun _ _ h=>absurd h (Nat.not_lt_zero _),Below.refl _ _⟩
 case round=>
  obtain ⟨k,hk,rfl,hfine,hbel⟩:=hrel
  have HF:=Lib.hid hfine
  by_cases hlt:k<n
  ·obtain ⟨p,hp⟩:∃ p,ms[k]? = some p:=⟨_,List.getElem?_eq_getElem (by rw [←HN.out];exact hlt)⟩
   obtain ⟨⟨m1,m2,m3,m4,m5,m6,m7,m8,m9,m10⟩,va⟩:=p
   have hsz:=HS.out _ (List.mem_of_getElem? hp)
   have hst:=hsz.strs
   dsimp only at hst
   obtain ⟨ka,kc,hva⟩:=hst.form
   obtain ⟨kl,hkl⟩:∃ l,l=m10.length:=⟨_,rfl⟩
   rw [←hkl] at hva
   subst hva
   have key:=H.out k _ hp
   have hlow:b<w.heap.size:=HB.out
   have f0:wr.cell? ⟨b,o+k*10,none⟩=some (.int .i64 m1):=(hbel.cell hlow).trans (by first|(simp [MsgM.cells];done)|simpa [MsgM.cells] using key 0 (by decide))
   have f1:wr.cell? ⟨b,o+k*10+1,none⟩=some (.int .i64 m2):=(hbel.cell hlow).trans (by first|(simp [MsgM.cells];done)|simpa [MsgM.cells] using key 1 (by decide))
   have f2:wr.cell? ⟨b,o+k*10+1+1,none⟩=some (.int .i64 m3):=(hbel.cell hlow).trans (by first|(simp [MsgM.cells];done)|simpa [MsgM.cells] using key 2 (by decide))
   have f3:wr.cell? ⟨b,o+k*10+1+1+1,none⟩=some (.int .i64 m4):=(hbel.cell hlow).trans (by first|(simp [MsgM.cells];done)|simpa [MsgM.cells] using key 3 (by decide))
   have f4:wr.cell? ⟨b,o+k*10+1+1+1+1,none⟩=some (.int .i64 m5):=(hbel.cell hlow).trans (by first|(simp [MsgM.cells];done)|simpa [MsgM.cells] using key 4 (by decide))
   have f5:wr.cell? ⟨b,o+k*10+1+1+1+1+1,none⟩=some (.int .i64 m6):=(hbel.cell hlow).trans (by first|(simp [MsgM.cells];done)|simpa [MsgM.cells] using key 5 (by decide))
   have f6:wr.cell? ⟨b,o+k*10+1+1+1+1+1+1,none⟩=some (.string m7):=(hbel.cell hlow).trans (by first|(simp [MsgM.cells];done)|simpa [MsgM.cells] using key 6 (by decide))
   have f7:wr.cell? ⟨b,o+k*10+1+1+1+1+1+1+1,none⟩=some (.string m8):=(hbel.cell hlow).trans (by first|(simp [MsgM.cells];done)|simpa [MsgM.cells] using key 7 (by decide))
   have f8:wr.cell? ⟨b,o+k*10+1+1+1+1+1+1+1+1,none⟩=some (.string m9):=(hbel.cell hlow).trans (by first|(simp [MsgM.cells];done)|simpa [MsgM.cells] using key 8 (by decide))
   have f9:wr.cell? ⟨b,o+k*10+1+1+1+1+1+1+1+1+1,none⟩=some (.slice ka kl kc):=(hbel.cell hlow).trans (by first|(simp [MsgM.cells];done)|simpa [MsgM.cells] using key 9 (by decide))
   have HP:=Lib.hid hp
   have HST:=Lib.hid (hst.below hbel (Nat.le_refl _))
   have HBEL:=Lib.hid hbel
   have HKL:=Lib.hid hkl
   have q7:=hsz.topic
   have q8:=hsz.tag
   have q9:=hsz.body
   have q10:=hsz.many
   have HKS:=Lib.hid hsz.keys
   dsimp only at q7 q8 q9 q10
   rw [←hkl] at q10
   unfold maxLen at q7 q8 q9 q10
   clear hfine key hsz hst hp hkl hbel hlow
   by_cases h1:(2000:Int)<m9.size
   case pos=>
    go_wp2_with fail
    go_ret
    exact ⟨true,rfl,(by intro h;cases h),below_alloc HBEL.out _⟩
   by_cases h2:(100:Int)<m7.size
   case pos=>
    go_wp2_with fail
    go_ret
    exact ⟨true,rfl,(by intro h;cases h),below_alloc HBEL.out _⟩
   by_cases h3:(100:Int)<m8.size
   case pos=>
    go_wp2_with fail
    go_ret
    exact ⟨true,rfl,(by intro h;cases h),below_alloc HBEL.out _⟩
   by_cases h4:(10:Int)<kl
   case pos=>
    go_wp2_with fail
    go_ret
    exact ⟨true,rfl,(by intro h;cases h),below_alloc HBEL.out _⟩
   go_wp2_with fail
   have HB2:=Lib.hid (below_alloc HBEL.out (.cells #[.int .i64 m1,.int .i64 m2,.int .i64 m3,.int .i64 m4,.int .i64 m5,.int .i64 m6,.string m7,.string m8,.string m9,.slice ka kl kc] 36))
   have HST2:=Lib.hid (HST.out.below ((Below.refl wr.heap.size wr).alloc (Nat.le_refl _) (.cells #[.int .i64 m1,.int .i64 m2,.int .i64 m3,.int .i64 m4,.int .i64 m5,.int .i64 m6,.string m7,.string m8,.string m9,.slice ka kl kc] 36)) (Nat.le_refl _))
   obtain ⟨W2,hW2⟩:∃ W,W=wr.alloc (.cells #[.int .i64 m1,.int .i64 m2,.int .i64 m3,.int .i64 m4,.int .i64 m5,.int .i64 m6,.string m7,.string m8,.string m9,.slice ka kl kc] 36):=⟨_,rfl⟩
   rw [←hW2] at HB2 HST2
   rw [←hW2]
   clear f0 f1 f2 f3 f4 f5 f6 f7 f8 f9 hW2
   go_loopw [38] (fun i wi=>∃ j:Nat,j≤kl∧i = .int .i64 j∧Hid (∀ t∈m10.take j,t.size≤100)∧∃ d,wi=W2.drewN d) (fun i _=>kl - (intOf i).toNat)
   case atStart=>exact ⟨0,Nat.zero_le _,rfl,Lib.hid (by intro t ht;simp at ht),0,rfl⟩
   case round=>
    obtain ⟨j,hj,rfl,HJ,d,rfl⟩:=hrel
    by_cases hjl:j<kl
    ·have hjm:j<m10.length:=by rw [←HKL.out];exact hjl
     obtain ⟨c,o2,rfl,hcell⟩:=HST2.out.cellAt hjm
     obtain ⟨t,ht⟩:∃ t,t=m10.getD j ⟨#[]⟩:=⟨_,rfl⟩
     rw [←ht] at hcell
     have htm:m10[j]? = some t:=by rw [ht,List.getD_eq_getElem?_getD,List.getElem?_eq_getElem hjm];rfl
     have hts:=HKS.out t (List.mem_of_getElem? htm)
     unfold maxLen at hts
     have HT:=Lib.hid htm
     clear ht htm
     by_cases h5:(100:Int)<t.size
     ·go_wp2_with fail
      go_ret
      exact ⟨true,rfl,(by intro h;cases h),below_drewN HB2.out _⟩
     ·go_wp2_with fail
      exact ⟨⟨j+1,by omega,by go_num,Lib.hid (take_more HJ.out HT.out (by omega)),_,rfl⟩,by simp [intOf];omega⟩
    ·obtain rfl:j=kl:=by omega
     have hall:∀ t∈m10,t.size≤100:=by
      have:=HJ.out
      rwa [HKL.out,List.take_length] at this
     have HFN:Hid (Fine ⟨m1,m2,m3,m4,m5,m6,m7,m8,m9,m10⟩):=Lib.hid ⟨by dsimp only;omega,by dsimp only;omega,by dsimp only;omega,by have:=HKL.out;dsimp only;omega,hall⟩
     clear hall
     go_wp2_with fail
     refine ⟨⟨k+1,by omega,by go_num,?_,below_drewN HB2.out _⟩,by simp [intOf];omega⟩
     intro j p hj hp
     by_cases e:j<k
     ·exact HF.out j p e hp
     ·obtain rfl:j=k:=by omega
      rw [HP.out] at hp
      cases hp
      exact HFN.out
  ·obtain rfl:k=n:=by omega
   have HALL:Hid (∀ p∈ms,Fine p.1):=Lib.hid fun p hp=>by
    obtain ⟨j,hj,e⟩:=List.getElem_of_mem hp
    exact HF.out j p (by rw [HN.out];exact hj) (by rw [←e];exact List.getElem?_eq_getElem hj)
   clear hfine
   go_wp2_with fail
   go_ret
   exact ⟨false,rfl,fun _=>HALL.out,hbel⟩
theorem great_none (a:Option Addr) (cap:Nat) (w:World):Calls Tryz.prog 10 #[.slice a 0 cap] w (GreatTo [] w):=by
 go_enter Tryz.func10,Tryz.ntmps10
 go_wp2_with fail
 go_loop [9] (fun i=>i = .int .i64 0) (fun _=>0)
 case atStart=>exact rfl
 case round=>
  obtain rfl:=hrel
  go_wp2_with fail
  go_ret
  exact ⟨false,rfl,(fun _ p hp=>by cases hp),Below.refl _ _⟩
theorem great_msgs (v:Value) (ms:List (MsgM×Value)) (w:World) (h:MsgsAt w v ms) (hn:ms.length≤1000) (hs:∀ p∈ms,Sized w p):Calls Tryz.prog 10 #[v] w (GreatTo ms w):=by
 obtain ⟨a,cap,rfl,h⟩:=h
 rcases h with rfl|⟨b,o,rfl,hb,h⟩
 ·exact great_none a cap w
 ·exact great_o ms b o ms.length cap w hb rfl hn hs h
instance:Inhabited (MsgM×Value):=⟨(⟨0,0,0,0,0,0,⟨#[]⟩,⟨#[]⟩,⟨#[]⟩,[]⟩,.slice none 0 0)⟩
section
variable {H:Type} {enc:TypeId×Value→H} {W:World}
set_option maxRecDepth 100000 in
theorem msg_open {n:Nat} {b o:Nat} {cs:List Value} {y:DataW H×List MemPlace} (hcs:W.cells? 0 ⟨b,o,none⟩ 10=some cs) (h:DataW.trod enc Tryz.prog W 0 (fun _=>true) true n 36 cs=some y) :
 ∃ p:MsgM×Value,(∀ i,i<10→W.cell? ⟨b,o+i,none⟩=(p.1.cells p.2)[i]?)∧Sized W p∧CapOk p.2:=by
 obtain ⟨_,hlen,hat⟩:=World.cells?_some hcs
 obtain ⟨xs,m,_,_,_,hxl,hf⟩:=DataW.trod_struct Tryz.underlying36 h
 match cs,hlen with
 | [c0,c1,c2,c3,c4,c5,c6,c7,c8,c9],_=>
  have hx:xs.length=10:=hxl
  match xs,hx with
  | [y0,y1,y2,y3,y4,y5,y6,y7,y8,y9],_=>
   have f0:DataW.trod enc Tryz.prog W 0 (fun _=>true) true m 3 [c0]=some y0:=hf 0 _ rfl
   have f1:DataW.trod enc Tryz.prog W 0 (fun _=>true) true m 3 [c1]=some y1:=hf 1 _ rfl
   have f2:DataW.trod enc Tryz.prog W 0 (fun _=>true) true m 3 [c2]=some y2:=hf 2 _ rfl
   have f3:DataW.trod enc Tryz.prog W 0 (fun _=>true) true m 3 [c3]=some y3:=hf 3 _ rfl
   have f4:DataW.trod enc Tryz.prog W 0 (fun _=>true) true m 3 [c4]=some y4:=hf 4 _ rfl
   have f5:DataW.trod enc Tryz.prog W 0 (fun _=>true) true m 3 [c5]=some y5:=hf 5 _ rfl
   have f6:DataW.trod enc Tryz.prog W 0 (fun _=>true) true m 9 [c6]=some y6:=hf 6 _ rfl
   have f7:DataW.trod enc Tryz.prog W 0 (fun _=>true) true m 9 [c7]=some y7:=hf 7 _ rfl
   have f8:DataW.trod enc Tryz.prog W 0 (fun _=>true) true m 9 [c8]=some y8:=hf 8 _ rfl
   have f9:DataW.trod enc Tryz.prog W 0 (fun _=>true) true m 34 [c9]=some y9:=hf 9 _ rfl
   obtain ⟨b0,e0,_,_⟩:=DataW.trod_int Tryz.underlying3 f0
   obtain rfl:c0=_:=List.singleton_inj.1 e0
   obtain ⟨b1,e1,_,_⟩:=DataW.trod_int Tryz.underlying3 f1
   obtain rfl:c1=_:=List.singleton_inj.1 e1
   obtain ⟨b2,e2,_,_⟩:=DataW.trod_int Tryz.underlying3 f2
   obtain rfl:c2=_:=List.singleton_inj.1 e2
   obtain ⟨b3,e3,_,_⟩:=DataW.trod_int Tryz.underlying3 f3
   obtain rfl:c3=_:=List.singleton_inj.1 e3
   obtain ⟨b4,e4,_,_⟩:=DataW.trod_int Tryz.underlying3 f4
   obtain rfl:c4=_:=List.singleton_inj.1 e4
   obtain ⟨b5,e5,_,_⟩:=DataW.trod_int Tryz.underlying3 f5
   obtain rfl:c5=_:=List.singleton_inj.1 e5
   obtain ⟨b6,e6,_,z6⟩:=DataW.trod_string Tryz.underlying9 f6
   obtain rfl:c6=_:=List.singleton_inj.1 e6
   obtain ⟨b7,e7,_,z7⟩:=DataW.trod_string Tryz.underlying9 f7
   obtain rfl:c7=_:=List.singleton_inj.1 e7
   obtain ⟨b8,e8,_,z8⟩:=DataW.trod_string Tryz.underlying9 f8
   obtain rfl:c8=_:=List.singleton_inj.1 e8
   have at_':∀ j,j<10→W.cell? ⟨b,o+j,none⟩=(#[Value.int .i64 b0,.int .i64 b1,.int .i64 b2,.int .i64 b3,.int .i64 b4,.int .i64 b5,.string b6,.string b7,.string b8,c9]:Array Value)[j]?:=fun j hj=>by
    have:=hat j hj
    rw [add_none] at this
    rw [this]
    simp
   rcases open_strings Tryz.underlying34 Tryz.underlying9 (by kernel_rfl) f9 with ⟨hcs,_⟩|⟨x,l,c,zs,hcs,_,hl,hm,hz,_,hcell,hwf⟩
   ·obtain rfl:c9=_:=List.singleton_inj.1 hcs
    exact ⟨(⟨b0,b1,b2,b3,b4,b5,b6,b7,b8,[]⟩,.slice none 0 0),at_',⟨⟨none,0,rfl,.inl rfl⟩,z8,z6,z7,Nat.zero_le _,fun t ht=>by cases ht⟩,⟨none,0,0,rfl,Nat.le_refl _⟩⟩
   ·obtain rfl:c9=_:=List.singleton_inj.1 hcs
    exact ⟨(⟨b0,b1,b2,b3,b4,b5,b6,b7,b8,zs.take l⟩,.slice (some x) l c),at_',⟨strs_of hl (by simpa using hz) hcell,z8,z6,z7,by have h1:=List.length_take_le l zs;simp at hz;show (zs.take l).length≤maxLen;omega,fun t ht=>hwf t (List.mem_of_mem_take ht)⟩,⟨some x,l,c,rfl,hl⟩⟩
end
end Go.Proofs.YtldkapjeheiiaaaGreatDoor
