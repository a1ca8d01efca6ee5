/- A part. -/
import Derived.Test.YtajmeimjaapagaaGreatDoorDor35
import Derived.Test.YtajmeimjaapagaaGreatDoorDor61
set_option linter.unusedVariables false
set_option linter.unusedSimpArgs false
namespace Go.Proofs.YtajmeimjaapagaaGreatDoor
open Go.RowKit Go.Deep
structure PutO (w0 w:World) (B:EnB) (z:EnG) (rb k:Nat) (all:List SentG):Prop where
 l:LwI w0 w B 1048576 z rb k k all 0
 len:all.length=k
 all_:∀ s∈all,(1≤s.due∧s.due≤200∧s.r.m=awS s.due∧s.gone=false)∧s.at_ = -1
 ws:z.ws=all.map fun s=>(s.due.toNat,s.r.id)
 L:z.L=[]
 hd:z.hd=0
theorem PutO.start {w0 w:World} {B:EnB} {z:EnG} {rb k:Nat} {all:List SentG} (h:PutO w0 w B z rb k all):OrdI w0 w B z rb k k all 0 (RS z) []:=by
 refine ⟨h.l,h.len,fun s hs=>(h.all_ s hs).1,?_,by rw [h.L];exact List.Pairwise.nil,.inr (by rw [h.hd];rfl),(fun a ha=>by rw [h.L] at ha;cases ha),fun p hp=>?_,(fun a ha=>by rw [h.L] at ha;cases ha),(by rw [List.append_nil]),(fun r hr=>by cases hr),List.Pairwise.nil,(fun r hr=>by cases hr),?_,?_⟩
 ·rw [h.ws,List.pairwise_map]
  exact h.l.s.v.sorted
 ·rw [h.ws] at hp
  obtain ⟨s,hs,rfl⟩:=List.mem_map.1 hp
  have h1:=h.all_ s hs
  refine ⟨s,hs,rfl,by unfold SentG.st;rw [h1.1.2.2.2,h1.2];rfl,by show s.due=((s.due.toNat:Nat):Int);omega⟩
 ·rw [h.L,h.ws,List.length_map,h.len];simp
 ·rw [h.L,h.ws,List.length_map,h.len];simp;omega
theorem OrdI.later {w0 w:World} {B:EnB} {z:EnG} {rb k n:Nat} {all:List SentG} {t:Int} {S D:List RcM} (h:OrdI w0 w B z rb k n all t S D) (hL:z.L=[]) (hh:(z.hd:Int)=t):OrdI w0 w B z rb k n all (t+1) S D:=
 { h with l:=h.l.later (by omega),hdt:=.inl ⟨hL,by omega⟩}
theorem nrow_zero {w:World} {base:Nat} {v:Value} (h:NRow w base v []):∃ a c,v = .slice a 0 c:=h.form
def LastO (D:List RcM) (j:Nat) (W:World) (LB:Nat):Prop:=∃ c0 c1 ld c3 lr c5 s6 s7 s8 ka kn kc,Box W LB #[.int .i64 c0,.int .i64 c1,.int .i64 ld,.int .i64 c3,.int .i64 lr,.int .i64 c5,.string s6,.string s7,.string s8,.slice ka kn kc]∧(j=0∧ld=0∨∃ j' r,j=j'+1∧D[j']? = some r∧ld=r.m.due∧lr=r.m.ref)
set_option maxHeartbeats 64000000 in
set_option maxRecDepth 100000 in
theorem walkF_DeqOrder (v:Value) (ds:List Int) (w:World) (ht:Tab10 w) (hv:IntsOf .u8 w v ds) (hwf:∀ n∈ds,(Lit.int .u8 n).wf=true) :
 Calls Tryz.prog 5 #[v] w fun e w'=>e = .returned (.bool true)∧Below w.heap.size w w':=by
 obtain ⟨la,lc,hvl,hcl⟩:=id hv
 obtain ⟨N,hN⟩:∃ n,n=ds.length:=⟨_,rfl⟩
 rw [←hN] at hvl
 subst hvl
 have HAW:=Lib.hid (dawake_any w ht)
 have HTB:=Lib.hid ht
 have HV:=Lib.hid hv
 have HWF:=Lib.hid hwf
 have HN:=Lib.hid hN
 clear ht hv hwf hN hcl
 go_enter Tryz.func5,Tryz.ntmps5
 go_wp2_with fail
 refine HAW.out.mono ?_
 rintro e w1 ⟨rfl,hc1⟩
 have HC1:=Lib.hid hc1
 clear hc1
 by_cases h30:(30:Int)<(N:Int)
 ·go_wp2_with fail
  go_ret
  exact ⟨rfl,chg_below HC1.out⟩
 have hN30:N≤30:=by omega
 have hM:Calls Tryz.prog 8 #[.int .i64 1048576,.int .i64 0] w1 (EMadeTo w1 1048576 0):=emade_any w1 (tab_chg HTB.out HC1.out) 1048576 0 (by decide) (by decide)
 have HM:=Lib.hid hM
 clear hM
 go_wp2_with fail
 refine HM.out.mono ?_
 rintro e w3 ⟨B,z,rfl,hA,q1,q2,q3,q4,q5⟩
 have hS:=SchI.made hA q1 q2 q3 q4 q5
 obtain ⟨W3,hW3⟩:∃ W,W=w3.alloc (.cells #[.pointer (some ⟨B.tb,0,none⟩),.pointer (some ⟨B.sb,0,none⟩),.pointer (some ⟨B.lb,0,none⟩),.pointer (some ⟨B.eb,0,none⟩)] 30):=⟨_,rfl⟩
 have hcB:Chg (fun _=>False) w3 W3:=hW3▸Chg.alloc _ (Chg.refl _ _) _
 have hR3:RigI W3 w3.heap.size B z:=hW3▸RigI.made hA.i
 have hS3:=hS.new hcB
 obtain ⟨eb,tb,sb,mb,lb⟩:=B
 obtain ⟨rb,hrb⟩:∃ r,r=w3.heap.size:=⟨_,rfl⟩
 rw [←hrb] at hR3
 have HP0:Hid (∃ z all,PutO w1 W3 ⟨eb,tb,sb,mb,lb⟩ z rb 0 all):=Lib.hid ⟨z,[],⟨⟨hS3,hR3⟩,rfl,(fun s hs=>by cases hs),by rw [q4];rfl,q5,q3⟩⟩
 have HW3:=Lib.hid hW3
 have HRB:=Lib.hid hrb
 clear hA q1 q2 q3 q4 q5 hW3 hcB hR3 hrb hS hS3 HM
 go_upto_region 6 with fail
 rw [←HW3.out,←HRB.out]
 go_wp2_with fail
 go_loopw [33] (fun i wr=>∃ k:Nat,k≤N∧i = .int .i64 k∧Hid (∃ z all,PutO w1 wr ⟨eb,tb,sb,mb,lb⟩ z rb k all)) (fun i _=>N - (intOf i).toNat)
 case atStart=>exact ⟨0,Nat.zero_le _,rfl,HP0⟩
 case round=>
  obtain ⟨k,hk,rfl,hX⟩:=hrel
  obtain ⟨z',all,hI⟩:=hX.out
  clear hX
  by_cases hkl:k<N
  ·as_aux_lemma=>
    have hkl':(k:Int)<(N:Int):=by omega
    have hc:=HC1.out.trans hI.l.s.a.chg (fun _ _ x=>x)
    obtain ⟨a',c',e',hcel⟩:=intsK_keep HV.out hc (fun _ _ x=>x)
    injection e' with e1 e2 e3
    clear e2 e3
    rw [←e1] at hcel
    obtain ⟨b,o,rfl,hcell⟩:∃ b o,la=some ⟨b,o,none⟩∧∀ i,i<ds.length→wr.cell? ⟨b,o+i,none⟩=some (.int .u8 (ds.getD i 0)):=by
     rcases hcel with h|h
     ·have:=HN.out;rw [h] at this;simp at this;omega
     ·exact h
    clear hcel e1
    have hxc:=hcell k (by rw [←HN.out];exact hkl)
    obtain ⟨x,hx⟩:∃ x,x=ds.getD k 0:=⟨_,rfl⟩
    rw [←hx] at hxc
    have hxw:(Lit.int .u8 x).wf=true:=by
     rw [hx,List.getD_eq_getElem?_getD,List.getElem?_eq_getElem (by rw [←HN.out];exact hkl)]
     exact HWF.out _ (List.getElem_mem _)
    obtain ⟨x0,x255,ew1,d,ew4,hd200⟩:=u8_due hxw 200 (by decide)
    obtain ⟨D,hD⟩:∃ D:Int,D=((1+d:Nat):Int):=⟨_,rfl⟩
    rw [←hD] at ew4
    have HEW:Hid ((1+x % 200:Int)=D):=Lib.hid ew4
    clear ew4
    have HAD:=Lib.hid (hI.l.addS (d:=D) (by omega) (by omega))
    obtain ⟨y0,y1,y2,y3⟩:=hI.l.g.cells
    dsimp only at y0 y1 y2 y3 HAD
    have HI:=Lib.hid hI
    have HD:=Lib.hid hD
    clear hI hc hcell hx hxw hD
    go_wp2_with fail
    rw [HEW.out]
    refine HAD.out.mono ?_
    rintro e w4 ⟨r,z4,hrm,rfl,hH4,hR4,hq4,a1,a2,a3,a4,a5⟩
    obtain ⟨y0,y1,y2,y3⟩:=hR4.cells
    dsimp only at y0 y1 y2 y3
    have hPT:=hH4.put (by omega) (by decide) (1+d) (by omega) (by rw [a1,HI.out.hd];omega)
    rw [←HD.out] at hPT
    have HPT:=Lib.hid hPT
    have HR4:=Lib.hid hR4
    have HA4:=Lib.hid (And.intro a1 (And.intro a2 (And.intro a3 hrm)))
    obtain ⟨rid,hrid⟩:∃ x:Int,x=(r.id:Int):=⟨_,rfl⟩
    rw [←hrid] at HPT ⊢
    clear hH4 hR4 hq4 a1 a2 a3 a4 a5 hPT hrid hxc
    go_wp2_with fail
    refine HPT.out.mono ?_
    rintro e w5 ⟨rfl,z5,hS5,hq5,b1,b2,b3,b4⟩
    have hP5:PutO w1 w5 ⟨eb,tb,sb,mb,lb⟩ z5 rb (k+1) (all ++ [⟨r,D,-1,false⟩]):=by
     refine ⟨⟨hS5,HR4.out.qt hq5⟩,by rw [List.length_append,HI.out.len];rfl,fun s hs=>?_,?_,by rw [b4,HA4.out.2.2.1,HI.out.L],by rw [b2,HA4.out.1,HI.out.hd]⟩
     ·rcases List.mem_append.1 hs with q|q
      ·exact HI.out.all_ s q
      ·rw [List.mem_singleton.1 q]
       have:=HD.out
       exact ⟨⟨by show 1≤D;omega,by show D≤200;omega,HA4.out.2.2.2,rfl⟩,rfl⟩
     ·rw [b3,HA4.out.2.1,HI.out.ws,List.map_append]
      congr 1
      have:D.toNat=1+d:=by have:=HD.out;omega
      show [(1+d,r.id)]=[(D.toNat,r.id)]
      rw [this]
    have HX:Hid (∃ z all,PutO w1 w5 ⟨eb,tb,sb,mb,lb⟩ z rb (k+1) all):=Lib.hid ⟨_,_,hP5⟩
    clear hS5 hq5 b1 b2 b3 b4 hP5 HPT HAD
    go_wp2_with fail
    exact ⟨⟨k+1,by omega,by go_num,HX⟩,by simp [intOf];omega⟩
  ·have hkc:k=N:=by omega
   subst hkc
   have hst:=hI.start
   have hEn:=hI.l.s.a.end_
   have hbe:=hI.l.s.a.below_end
   obtain ⟨y0,y1,y2,y3⟩:=hI.l.g.cells
   dsimp only at y0 y1 y2 y3 hEn
   obtain ⟨N,hNN⟩:∃ N,N=k:=⟨_,rfl⟩
   rw [←hNN] at hst hN30 HN ⊢
   obtain ⟨S,hSS⟩:∃ S,S=RS z':=⟨_,rfl⟩
   rw [←hSS] at hst hbe
   obtain ⟨E,hE⟩:∃ E,E=(bytesI z'.x.l).length:=⟨_,rfl⟩
   rw [←hE] at hbe hEn
   have HEN:=Lib.hid hEn
   have HBE:=Lib.hid hbe
   have H20:Hid (∃ z all k D,OrdI w1 wr ⟨eb,tb,sb,mb,lb⟩ z rb k N all ((1:Int) - 1) S D∧z.L=[]∧(z.hd:Int)=(1:Int) - 1∧(∀ r∈D,E≤r.id)∧E≤(bytesI z.x.l).length):=Lib.hid ⟨z',all,_,[],hst,hI.L,by rw [hI.hd];rfl,(fun r hr=>by cases hr),by rw [hE];exact Nat.le_refl _⟩
   clear hI hst hEn hbe hNN hSS hE hk hkl h30
   go_wp2_with fail
   refine HEN.out.mono ?_
   rintro e w4 ⟨rfl,rfl⟩
   clear y0 y1 y2 y3 HEN
   go_wp2_with fail
   go_loopw [11] (fun nv wr=>∃ t:Nat,1≤t∧t≤201∧nv = .int .i64 t∧Hid (∃ z all k D,OrdI w1 wr ⟨eb,tb,sb,mb,lb⟩ z rb k N all ((t:Int) - 1) S D∧z.L=[]∧(z.hd:Int)=(t:Int) - 1∧(∀ r∈D,E≤r.id)∧E≤(bytesI z.x.l).length)) (fun nv _=>201 - (intOf nv).toNat)
   case atStart=>exact ⟨1,Nat.le_refl _,by decide,rfl,H20⟩
   case round=>
    obtain ⟨t,ht1,ht2,rfl,hX⟩:=hrel
    obtain ⟨z0,all0,k0,D0,hO,hL0,hh0,hD0,hE0⟩:=hX.out
    clear hX H20
    by_cases ht:t≤200
    ·as_aux_lemma=>
      have ht':(t:Int)≤200:=by omega
      have hO1:=hO.later hL0 hh0
      rw [show (t:Int) - 1+1=(t:Int) by omega] at hO1
      have hR0:Hid (∃ n,(fun m W=>∃ z all k D,OrdI w1 W ⟨eb,tb,sb,mb,lb⟩ z rb k N all (t:Int) S D∧(∀ r∈D,E≤r.id)∧E≤(bytesI z.x.l).length∧muD z (t:Int)=m) n wr):=Lib.hid ⟨_,z0,all0,k0,D0,hO1,hD0,hE0,rfl⟩
      clear hO hL0 hh0 hD0 hE0 hO1
      go_wp2_with fail
      go_loopw [] (fun wr=>Hid (∃ n,(fun m W=>∃ z all k D,OrdI w1 W ⟨eb,tb,sb,mb,lb⟩ z rb k N all (t:Int) S D∧(∀ r∈D,E≤r.id)∧E≤(bytesI z.x.l).length∧muD z (t:Int)=m) n wr)) (fun wr=>muW (fun m W=>∃ z all k D,OrdI w1 W ⟨eb,tb,sb,mb,lb⟩ z rb k N all (t:Int) S D∧(∀ r∈D,E≤r.id)∧E≤(bytesI z.x.l).length∧muD z (t:Int)=m) wr)
      case atStart=>exact hR0
      case round=>
       obtain ⟨z0,all0,k0,D0,hO,hD0,hE0,hmu⟩:=muW_at (P:=(fun m W=>∃ z all k D,OrdI w1 W ⟨eb,tb,sb,mb,lb⟩ z rb k N all (t:Int) S D∧(∀ r∈D,E≤r.id)∧E≤(bytesI z.x.l).length∧muD z (t:Int)=m)) hrel.out
       obtain ⟨y0,y1,y2,y3⟩:=hO.l.g.cells
       dsimp only at y0 y1 y2 y3
       have hk60:k0≤60:=by have:=hO.kb;omega
       cases hbz:(!z0.L.isEmpty || decide ((z0.hd:Int)<(t:Int))) with
       | true=>
        as_aux_lemma=>
        have hbu:=hO.l.s.busy (t:Int)
        rw [hbz] at hbu
        have HBU:=Lib.hid hbu
        have HST:=Lib.hid (hO.l.s.step (by omega) (by omega) (by omega) (by omega))
        have HO:=Lib.hid hO
        have HMU:=Lib.hid hmu
        have HBZ:=Lib.hid hbz
        have HDE:=Lib.hid (And.intro hD0 hE0)
        dsimp only at HBU HST
        clear hO hmu hbu hbz hrel hR0 hD0 hE0
        go_wp2_with fail
        refine HBU.out.mono ?_
        rintro e w5 ⟨rfl,rfl⟩
        go_wp2_with fail
        refine HST.out.mono ?_
        rintro e w6 (⟨q1,q2,_⟩|⟨z6,rfl,h1,h2,h3,h4,h5,h6⟩|⟨_,_,q,_⟩|⟨z6,s,bs6,id6,hs,hst,hdue,rfl,h1,h2,h3⟩)
        ·exfalso
         have:=HBZ.out
         rw [q1] at this
         simp at this
         omega
        ·have hT:=HO.out.turn h1 h2 h3 h4 h6 (fun e=>by have:=HBZ.out;rw [e] at this;simpa using this)
         have hP:(fun m W=>∃ z all k D,OrdI w1 W ⟨eb,tb,sb,mb,lb⟩ z rb k N all (t:Int) S D∧(∀ r∈D,E≤r.id)∧E≤(bytesI z.x.l).length∧muD z (t:Int)=m) (muD z6 (t:Int)) w6:=⟨z6,all0,k0,D0,hT,HDE.out.1,by rw [h3];exact HDE.out.2,rfl⟩
         have HX:Hid (Hid (∃ n,(fun m W=>∃ z all k D,OrdI w1 W ⟨eb,tb,sb,mb,lb⟩ z rb k N all (t:Int) S D∧(∀ r∈D,E≤r.id)∧E≤(bytesI z.x.l).length∧muD z (t:Int)=m) n w6)∧muW (fun m W=>∃ z all k D,OrdI w1 W ⟨eb,tb,sb,mb,lb⟩ z rb k N all (t:Int) S D∧(∀ r∈D,E≤r.id)∧E≤(bytesI z.x.l).length∧muD z (t:Int)=m) w6<muW (fun m W=>∃ z all k D,OrdI w1 W ⟨eb,tb,sb,mb,lb⟩ z rb k N all (t:Int) S D∧(∀ r∈D,E≤r.id)∧E≤(bytesI z.x.l).length∧muD z (t:Int)=m) wr):=Lib.hid ⟨Lib.hid ⟨_,hP⟩,by have:=muW_le (P:=(fun m W=>∃ z all k D,OrdI w1 W ⟨eb,tb,sb,mb,lb⟩ z rb k N all (t:Int) S D∧(∀ r∈D,E≤r.id)∧E≤(bytesI z.x.l).length∧muD z (t:Int)=m)) hP;have:=HMU.out;omega⟩
         clear hP h1 h2 h3 h4 h5 h6 hT
         go_wp2_with fail
         exact HX.out
        ·exfalso;omega
        ·have hT:=HO.out.came h1 h2 hs hst h3
         have hP:(fun m W=>∃ z all k D,OrdI w1 W ⟨eb,tb,sb,mb,lb⟩ z rb k N all (t:Int) S D∧(∀ r∈D,E≤r.id)∧E≤(bytesI z.x.l).length∧muD z (t:Int)=m) (muD z6 (t:Int)) w6:=⟨z6,_,k0+1,_,hT,fun r hr=>by
          rcases List.mem_append.1 hr with a|a
          ·exact HDE.out.1 r a
          ·rw [List.mem_singleton.1 a]
           exact Nat.le_trans HDE.out.2 h3.le,by have:=h3.end_;have:=h3.le;have:=HDE.out.2;omega,rfl⟩
         have HX:Hid (Hid (∃ n,(fun m W=>∃ z all k D,OrdI w1 W ⟨eb,tb,sb,mb,lb⟩ z rb k N all (t:Int) S D∧(∀ r∈D,E≤r.id)∧E≤(bytesI z.x.l).length∧muD z (t:Int)=m) n w6)∧muW (fun m W=>∃ z all k D,OrdI w1 W ⟨eb,tb,sb,mb,lb⟩ z rb k N all (t:Int) S D∧(∀ r∈D,E≤r.id)∧E≤(bytesI z.x.l).length∧muD z (t:Int)=m) w6<muW (fun m W=>∃ z all k D,OrdI w1 W ⟨eb,tb,sb,mb,lb⟩ z rb k N all (t:Int) S D∧(∀ r∈D,E≤r.id)∧E≤(bytesI z.x.l).length∧muD z (t:Int)=m) wr):=Lib.hid ⟨Lib.hid ⟨_,hP⟩,by have:=muW_le (P:=(fun m W=>∃ z all k D,OrdI w1 W ⟨eb,tb,sb,mb,lb⟩ z rb k N all (t:Int) S D∧(∀ r∈D,E≤r.id)∧E≤(bytesI z.x.l).length∧muD z (t:Int)=m)) hP;have:=HMU.out;have:=h3.mu;omega⟩
         clear hP h1 h2 h3 hs hst hdue hT
         go_wp2_with fail
         exact HX.out
       | false=>
        as_aux_lemma=>
        obtain ⟨hL,hhd⟩:=not_busy hbz
        have hbu:=hO.l.s.busy (t:Int)
        rw [hbz] at hbu
        have HBU:=Lib.hid hbu
        have hhe:(z0.hd:Int)=(t:Int):=by
         rcases hO.hdt with ⟨_,e⟩|e<;>omega
        have HX:Hid (∃ z all k D,OrdI w1 wr ⟨eb,tb,sb,mb,lb⟩ z rb k N all (((t+1:Nat):Int) - 1) S D∧z.L=[]∧(z.hd:Int)=((t+1:Nat):Int) - 1∧(∀ r∈D,E≤r.id)∧E≤(bytesI z.x.l).length):=Lib.hid ⟨z0,all0,k0,D0,by rw [show ((t+1:Nat):Int) - 1=(t:Int) by omega];exact hO,hL,by omega,hD0,hE0⟩
        dsimp only at HBU
        clear hO hmu hbz hrel hR0 hL hhd hbu hhe hD0 hE0
        go_wp2_with fail
        refine HBU.out.mono ?_
        rintro e w5 ⟨rfl,rfl⟩
        go_wp2_with fail
        exact ⟨⟨t+1,by omega,by omega,by go_num,HX⟩,by simp [intOf];omega⟩
    ·as_aux_lemma=>
      have ht':¬ (t:Int)≤200:=by omega
      have htd:decide ((t:Int)≤200)=false:=decide_eq_false ht'
      have hh200:(z0.hd:Int)=200:=by omega
      have hws:z0.ws=[]:=by
       cases hw:z0.ws with
       | nil=>rfl
       | cons p l=>
        have h1:=hO.l.s.a.i.lg.later p (by rw [hw];exact List.mem_cons_self ..)
        obtain ⟨s,q1,q2,q3,q4⟩:=hO.Wg p (by rw [hw];exact List.mem_cons_self ..)
        have:=(hO.all_ s q1).2.1
        omega
      have hDn:D0.length=N:=by
       have:=hO.cnt
       rw [hL0,hws] at this
       simpa using this
      have hp0:cntP z0.M 1=0:=by
       rw [hO.l.s.v.cntP 1,List.length_eq_zero_iff,List.filter_eq_nil_iff]
       intro s hs hx
       have hx:s.st=1:=of_decide_eq_true hx
       rcases hO.l.s.v.pend s hs hx with ⟨d,_,q⟩|q
       ·rw [hws] at q;cases q
       ·rw [hL0] at q;cases q
      have hk60:k0≤60:=by have:=hO.kb;omega
      have hml:=hO.l.s.a.ml
      have hnx:nxt (RS z0) E=D0:=by rw [hO.rs];exact nxt_end HBE.out D0 hD0
      have HLA:=Lib.hid hO.l
      have HDM:=Lib.hid hO.Dm
      have HDS:=Lib.hid hO.Ds
      have HALL:=Lib.hid hO.all_
      have HRS:=Lib.hid hO.rs
      obtain ⟨y0,y1,y2,y3⟩:=hO.l.g.cells
      dsimp only at y0 y1 y2 y3
      obtain ⟨LB,hLB⟩:∃ q,q=wr.heap.size:=⟨_,rfl⟩
      obtain ⟨W4,hW4⟩:∃ W,W=wr.alloc (.cells #[.int .i64 0,.int .i64 0,.int .i64 0,.int .i64 0,.int .i64 0,.int .i64 0,.string ⟨#[]⟩,.string ⟨#[]⟩,.string ⟨#[]⟩,.slice none 0 0] 36):=⟨_,rfl⟩
      have hc4:Chg (fun _=>False) wr W4:=hW4▸Chg.alloc _ (Chg.refl _ _) _
      have hb4:Box W4 LB zc:=by rw [hW4,hLB];exact Box.new wr _
      have hids:=(hO.l.new hc4).s.a.ids (by omega) E hnx
      rw [show IdsTo W4 D0=IdsTo W4 D0 from rfl] at hids
      dsimp only at hids
      have HIDS:=Lib.hid hids
      have HPX:Hid (∀ W,Chg (fun _=>False) wr W→Calls Tryz.prog 27 #[.pointer (some ⟨sb,0,none⟩)] W fun e w'=>∃ a c,e = .returned (.slice a 0 c)∧Below W.heap.size W w'):=Lib.hid (fun W hW=>by
       refine (ppending_any ((hO.l.new hW).s.a.i.pe) (by omega)).mono ?_
       rintro e w' ⟨v,l,rfl,h1,h2,h3⟩
       have hl:l=[]:=by
        have:=h1.1.length_eq
        rw [List.length_map] at this
        unfold cntP at hp0
        rw [hp0] at this
        exact List.length_eq_zero_iff.1 this
       rw [hl] at h2
       obtain ⟨a,c,rfl⟩:=nrow_zero h2
       exact ⟨a,c,rfl,h3⟩)
      have HW4:=Lib.hid hW4
      have HLB:=Lib.hid hLB
      have HB4:=Lib.hid hb4
      have HC4:=Lib.hid hc4
      have HDN:=Lib.hid hDn
      clear hO hL0 hh0 hD0 hE0 hh200 hws hDn hp0 hml hnx hLB hW4 hc4 hb4 hids
      have y0:=HC4.out.cell y0 (fun x=>x)
      go_upto_region 25 with fail
      rw [←HW4.out,←HLB.out]
      go_wp2_with fail
      refine HIDS.out.mono ?_
      rintro e w5 ⟨ia,ic,rfl,hcell,hc5⟩
      rw [HDN.out]
      have HCELL:=Lib.hid hcell
      have HC5:Hid (Chg (fun _=>False) wr w5):=Lib.hid (HC4.out.trans hc5 (fun _ _ x=>x))
      have hb5:Box w5 LB zc:=hc5.heap HB4.out (fun x=>x)
      have HLST:Hid (LastO D0 0 w5 LB):=Lib.hid ⟨0,0,0,0,0,0,_,_,_,none,0,0,hb5,.inl ⟨rfl,rfl⟩⟩
      clear hcell hc5 hb5 y0 y1 y2 y3 HIDS
      go_wp2_with fail
      go_loopw [15,89] (fun mv i wx=>∃ j:Nat,j≤N∧i = .int .i64 j∧mv = .int .i64 j∧Hid (Chg (fun q=>q=LB) w5 wx)∧Hid (LastO D0 j wx LB)) (fun _ i _=>N - (intOf i).toNat)
      case atStart=>exact ⟨0,Nat.zero_le _,rfl,rfl,Lib.hid (Chg.refl _ _),HLST⟩
      case round=>
       obtain ⟨j,hj,rfl,rfl,HCX,HLS⟩:=hrel
       have hlbl:∀ q,z0.own ⟨eb,tb,sb,mb,lb⟩ q→¬ q=LB:=fun q hq e=>by
        have:=HLA.out.s.a.i.lt q hq
        have:=HLB.out
        omega
       have hrbl:¬ rb=LB:=by have:=HLA.out.g.out.1;have:=HLB.out;omega
       have hw1:w1.heap.size≤LB:=by rw [HLB.out];exact HLA.out.s.a.chg.size
       have hL5:=HLA.out.new HC5.out
       have hLx:LwI w1 wr ⟨eb,tb,sb,mb,lb⟩ 1048576 z0 rb k0 N all0 ((t:Int) - 1):=⟨hL5.s.away HCX.out hlbl (fun q e=>by omega),hL5.g.chg HCX.out hrbl⟩
       obtain ⟨y0,y1,y2,y3⟩:=hLx.g.cells
       dsimp only at y0 y1 y2 y3
       by_cases hjn:j<N
       ·as_aux_lemma=>
         have hjn':(j:Int)<(N:Int):=by omega
         obtain ⟨r,hr⟩:∃ r,D0[j]? = some r:=⟨_,List.getElem?_eq_getElem (by rw [HDN.out];exact hjn)⟩
         obtain ⟨g,rfl,hgl,hgl2,hg⟩:=HCELL.out j r hr
         have hw4:LB<W4.heap.size:=HB4.out.lt
         have hgx:wr.cell? ⟨g,j,none⟩=some (.int .i64 (r.id:Int)):=HCX.out.cell hg (by show ¬ g=LB;omega)
         have hrm:=List.mem_of_getElem? hr
         obtain ⟨s,hs,hme,hsd⟩:=HDM.out r hrm
         have hs1:=(HALL.out s hs).1
         have hrd:=hLx.s.a.read (r:=r) (by omega) (by rw [HRS.out];exact List.mem_append_right _ hrm)
         obtain ⟨c0,c1,ld,c3,lr,c5,s6,s7,s8,ka0,kn0,kc0,hbx,hlast⟩:=HLS.out
         obtain ⟨d,hd⟩:∃ d,d=s.due:=⟨_,rfl⟩
         obtain ⟨rid,hrid⟩:∃ x:Int,x=(s.r.id:Int):=⟨_,rfl⟩
         rw [←hd,←hrid] at hme
         rw [←hd] at hs1
         have hdue:r.m.due=d:=by rw [hme];rfl
         have href:r.m.ref=rid:=by rw [hme];rfl
         rw [hme] at hrd
         unfold ReadTo dlvM awS MsgM.val MsgM.cells at hrd
         dsimp only at hrd
         have hg1:¬ d<ld∧(d=ld→¬ rid≤lr):=by
          rcases hlast with ⟨_,e⟩|⟨j',r',e1,e2,e3,e4⟩
          ·omega
          ·have hjl:=(List.getElem?_eq_some_iff.1 e2).1
           have hjl2:=(List.getElem?_eq_some_iff.1 hr).1
           have:=List.pairwise_iff_getElem.1 HDS.out j' j hjl hjl2 (by omega)
           rw [(List.getElem?_eq_some_iff.1 e2).2,(List.getElem?_eq_some_iff.1 hr).2] at this
           rcases this with q|⟨q1,q2⟩<;>omega
         obtain ⟨hn1,hn2⟩:=hg1
         have hnd1:decide (d<ld)=false:=decide_eq_false hn1
         obtain ⟨did,hdid⟩:∃ x:Int,x=(r.id:Int):=⟨_,rfl⟩
         rw [←hdid] at hgx hrd
         have HRD:=Lib.hid hrd
         have HR:=Lib.hid hr
         have HDR:=Lib.hid (And.intro hdue href)
         have kl:=hbx.cell
         have fl:=hbx.free
         have HBX:=Lib.hid hbx
         have HLW:=Lib.hid (And.intro hlbl (And.intro hrbl hw1))
         have HJJ:Hid (j<N):=Lib.hid hjn
         have HLBW:Hid (LB<wr.heap.size):=Lib.hid hbx.lt
         clear hr hg hgl hgl2 hw4 hrm hs hme hsd hrd hlast hd hrid hdue href hbx hdid hs1 hlbl hrbl hw1 hL5 hLx hj hjn
         go_wp2_with fail
         refine HRD.out.mono ?_
         rintro e w6 ⟨vk,rfl,hst6,_,hb6⟩
         obtain ⟨ka,kc,rfl⟩:=hst6.form
         obtain ⟨kn,hkn⟩:∃ n,n=([]:List ByteArray).length:=⟨_,rfl⟩
         rw [←hkn]
         obtain ⟨MB,hMB⟩:∃ q,q=w6.heap.size:=⟨_,rfl⟩
         obtain ⟨W6,hW6⟩:∃ W,W=w6.alloc (.cells #[.int .i64 3,.int .i64 0,.int .i64 d,.int .i64 0,.int .i64 rid,.int .i64 d,.string ⟨#[97]⟩,.string ⟨#[]⟩,.string ⟨#[]⟩,.slice ka kn kc] 36):=⟨_,rfl⟩
         have hc6:Chg (fun _=>False) wr W6:=(below_chg hb6).trans (hW6▸Chg.alloc _ (Chg.refl _ _) _) (fun _ _ x=>x)
         have hmb:Box W6 MB #[.int .i64 3,.int .i64 0,.int .i64 d,.int .i64 0,.int .i64 rid,.int .i64 d,.string ⟨#[97]⟩,.string ⟨#[]⟩,.string ⟨#[]⟩,.slice ka kn kc]:=by rw [hW6,hMB];exact Box.new w6 _
         have hlb6:Box W6 LB _:=hc6.heap HBX.out (fun x=>x)
         have hs6:=(below_chg hb6).size
         obtain ⟨W7,hW7⟩:∃ W,W=W6.setRow LB #[.int .i64 3,.int .i64 0,.int .i64 d,.int .i64 0,.int .i64 rid,.int .i64 d,.string ⟨#[97]⟩,.string ⟨#[]⟩,.string ⟨#[]⟩,.slice ka kn kc]:=⟨_,rfl⟩
         have hb7:Box W7 LB #[.int .i64 3,.int .i64 0,.int .i64 d,.int .i64 0,.int .i64 rid,.int .i64 d,.string ⟨#[97]⟩,.string ⟨#[]⟩,.string ⟨#[]⟩,.slice ka kn kc]:=hW7▸setRow_heap W6 LB _ _ _ _ hlb6
         have hc7:Chg (fun q=>q=LB) W6 W7:=hW7▸⟨rfl,rfl,rfl,by simp,fun k _ hk=>setRow_other W6 LB k _ hk⟩
         have HX:Hid (Hid (Chg (fun q=>q=LB) w5 W7)∧Hid (LastO D0 (j+1) W7 LB)):=Lib.hid ⟨Lib.hid ((HCX.out.trans (hc6.wide (fun _ _ e=>e.elim)) (fun _ _ e=>e)).trans hc7 (fun _ _ e=>e)),Lib.hid ⟨_,_,_,_,_,_,_,_,_,_,_,_,hb7,.inr ⟨j,r,rfl,HR.out,HDR.out.1.symm,HDR.out.2.symm⟩⟩⟩
         clear kl fl
         have km:=hmb.cell
         have kl:=hlb6.cell
         have HLB6:=Lib.hid hlb6
         have HW6:=Lib.hid hW6
         have HW7:=Lib.hid hW7
         have HMB:=Lib.hid hMB
         clear hst6 hb6 hkn hMB hW6 hc6 hmb hlb6 hs6 hW7 hb7 hc7 y0 y1 y2 y3 hgx
         go_upto_region 30 with fail
         rw [←HW6.out,←HMB.out]
         by_cases hde:d=ld
         ·have hn2':=hn2 hde
          have hnd2:decide (rid≤lr)=false:=decide_eq_false (by omega)
          have hdb:(d == ld)=true:=by simpa using hde
          clear hn2 hde
          go_upto_region 32 with fail
          go_upto_region 32 with fail
          clear kl hnd1 hdb hn1
          go_wp2_with (refine wpList_store_msg rfl _ _ rfl LB 3 0 d 0 rid d ⟨#[97]⟩ ⟨#[]⟩ ⟨#[]⟩ ka kn kc rfl rfl HLB6.out rfl ?_)
          rw [←HW7.out]
          exact ⟨⟨j+1,HJJ.out,by go_num,by go_num,HX.out⟩,by have:=HJJ.out;simp [intOf];omega⟩
         ·have hdb:(d == ld)=false:=by simpa using hde
          clear hn2
          go_upto_region 32 with fail
          go_upto_region 32 with fail
          clear kl hnd1 hdb hn1
          go_wp2_with (refine wpList_store_msg rfl _ _ rfl LB 3 0 d 0 rid d ⟨#[97]⟩ ⟨#[]⟩ ⟨#[]⟩ ka kn kc rfl rfl HLB6.out rfl ?_)
          rw [←HW7.out]
          exact ⟨⟨j+1,HJJ.out,by go_num,by go_num,HX.out⟩,by have:=HJJ.out;simp [intOf];omega⟩
       ·as_aux_lemma=>
         have hjc:j=N:=by omega
         subst hjc
         have hpn:=HLA.out
         have HPN2:Hid (Calls Tryz.prog 27 #[.pointer (some ⟨sb,0,none⟩)] wr fun e w'=>∃ a c,e = .returned (.slice a 0 c)∧Below wr.heap.size wr w'):=Lib.hid (by
          refine HPX.out wr (HC5.out.trans HCX.out (fun i hi (e:i=LB)=>?_))
          have:=HLB.out
          omega)
         have HE0:Hid (Chg (fun _=>False) w wr):=Lib.hid ((HC1.out.trans hL5.s.a.chg (fun _ _ x=>x)).trans HCX.out (fun i hi (e:i=LB)=>by have:=HC1.out.size;omega))
         clear hpn hlbl hrbl hw1 hL5 hLx HCX HLS
         go_wp2_with fail
         refine HPN2.out.mono ?_
         rintro e w6 ⟨pa,pc,rfl,hb6⟩
         have HE:Hid (Chg (fun _=>False) w w6):=Lib.hid (HE0.out.trans (below_chg hb6) (fun _ _ x=>x))
         clear hb6
         go_wp2_with fail
         go_ret
         exact ⟨by simp,chg_below HE.out⟩
end Go.Proofs.YtajmeimjaapagaaGreatDoor
