/- A part. -/
import Derived.Test.YtldkapjeheiiaaaGreatDoorEpu60
set_option linter.unusedVariables false
set_option linter.unusedSimpArgs false
namespace Go.Proofs.YtldkapjeheiiaaaGreatDoor
open Go.RowKit Go.Deep
attribute [local go_sem] fr_opt
def SlOk (w:World) (v:Value):Prop:=∀ q n c,v = .slice (some ⟨q,0,none⟩) n c→q<w.heap.size
theorem SlOk.keep {w w':World} {v:Value} (h:SlOk w v) (hs:w.heap.size≤w'.heap.size):SlOk w' v:=fun q n c e=>Nat.lt_of_lt_of_le (h q n c e) hs
def EndG (w0 wr:World) (B:EnB) (z:EnG) (rb:Nat) (x:PuG) (done rest:List RcM) (k p:Nat) (u:Value) (w:World):Prop:=
 match p with
 | 0=>Chg (fun _=>False) wr w
 | 1=>PuA w0 w B { z with v:=.slice none 0 0,L:=[]} rb x done rest k k∧∃ a cap,u = .slice a z.L.length cap∧GRow 3 1 ienK w (.slice a z.L.length cap) z.L
 | _+2=>PuA w0 w B { z with v:=.slice none 0 0,L:=[]} rb x done rest k k
theorem PutJ.endf {w0 wr:World} {B:EnB} {z:EnG} {rb:Nat} {x:PuG} {done rest:List RcM} {k sy seen puts:Nat} (h:PutJ w0 wr B z rb x done rest k sy seen puts) (p:Nat) (u:Value) (w:World) (hG:EndG w0 wr B z rb x done rest k p u w) :
 w.cell? ⟨rb,3,none⟩=some (.pointer (some ⟨B.eb,0,none⟩))∧w.cell? ⟨rb+8,0,none⟩=some (x.rv 11)∧Chg (fun _=>False) w0 w:=by
 have key:∀ z',PuA w0 w B z' rb x done rest k k→w.cell? ⟨rb,3,none⟩=some (.pointer (some ⟨B.eb,0,none⟩))∧w.cell? ⟨rb+8,0,none⟩=some (x.rv 11)∧Chg (fun _=>False) w0 w:=fun z' hp=>by
  refine ⟨hp.p.rigs.2.2.2,?_,hp.a.chg⟩
  rw [(hp.p.cell 8 rfl).1,h.c.b8]
 match p,hG with
 | 0,hG=>exact key _ (h.pa.new hG)
 | 1,hG=>exact key _ hG.1
 | _+2,hG=>exact key _ hG
theorem PutJ.late1 {w0 wr:World} {B:EnB} {z:EnG} {rb:Nat} {x:PuG} {done rest:List RcM} {k sy seen puts:Nat} (h:PutJ w0 wr B z rb x done rest k sy seen puts) {w:World} {u:Value} (hG:EndG w0 wr B z rb x done rest k 0 u w) :
 Calls Tryz.prog 21 #[.pointer (some ⟨B.eb,0,none⟩)] w fun e w'=>∃ v,e = .returned v∧EndG w0 wr B z rb x done rest k 1 v w':=by
 have hp:=h.pa.new hG
 refine (hp.a.late).mono ?_
 rintro e w' ⟨a,cap,rfl,hA,hq,hg,hn⟩
 exact ⟨_,rfl,hp.enq hA hq,a,cap,rfl,hg⟩
theorem PutJ.ints2 {w0 wr:World} {B:EnB} {z:EnG} {rb:Nat} {x:PuG} {done rest:List RcM} {k sy seen puts:Nat} (h:PutJ w0 wr B z rb x done rest k sy seen puts) (hkk:k≤1000) {w:World} {u:Value} (hG:EndG w0 wr B z rb x done rest k 1 u w) :
 Calls Tryz.prog 20 #[u,x.rv 11] w fun e w'=>e = .returned (.bool true)∧∀ u',EndG w0 wr B z rb x done rest k 2 u' w':=by
 obtain ⟨hp,a,cap,rfl,hg⟩:=hG
 have hr:=hp.p.row 11 (by decide) (by decide)
 rw [h.l.Lt] at hr
 have hl:z.L.length≤1000000:=by
  have h1:=h.pa.a.ws
  have h2:=h.pa.a.dl
  omega
 refine (ints_any _ _ z.L z.L w (grow_ints hg) (grow_ints hr) hl).mono ?_
 rintro e w' ⟨rfl,q,rfl⟩
 exact ⟨by simp,fun _=>hp.new (chg_drewN _ _)⟩
theorem PutJ.late3 {w0 wr:World} {B:EnB} {z:EnG} {rb:Nat} {x:PuG} {done rest:List RcM} {k sy seen puts:Nat} (h:PutJ w0 wr B z rb x done rest k sy seen puts) {w:World} {u:Value} (hG:EndG w0 wr B z rb x done rest k 2 u w) :
 Calls Tryz.prog 21 #[.pointer (some ⟨B.eb,0,none⟩)] w fun e w'=>∃ a c,e = .returned (.slice a 0 c)∧∀ u',EndG w0 wr B z rb x done rest k 3 u' w':=by
 have hp:PuA w0 w B { z with v:=.slice none 0 0,L:=[]} rb x done rest k k:=hG
 refine (hp.a.late).mono ?_
 rintro e w' ⟨a,cap,rfl,hA,hq,hg,hn⟩
 exact ⟨a,cap,rfl,fun _=>hp.enq hA hq⟩
set_option maxHeartbeats 16000000 in
set_option maxRecDepth 100000 in
theorem walkF_EnqPuts (st:Int) (v:Value) (os:List OpT) (w:World) (ht:Tab10 w) (h8:(Lit.int .u8 st).wf=true) (hv:OpsT w v os) (hl:os.length≤maxLen) (hs:∀ x∈os,x.ok w) :
 Calls Tryz.prog 3 #[.int .u8 st,v] w fun e w'=>e = .returned (.bool true)∧Below w.heap.size w w':=by
 have h8':0≤st∧st≤255:=by
  have h2:IntKind.u8.min≤st∧st≤IntKind.u8.max:=by simpa [Lit.wf] using h8
  have e1:IntKind.u8.min=0:=by decide
  have e2:IntKind.u8.max=255:=by decide
  omega
 obtain ⟨a0,a255⟩:=h8'
 obtain ⟨h,rfl⟩:∃ h:Nat,st=(h:Int):=⟨st.toNat,by omega⟩
 unfold maxLen at hl
 have HTB:=Lib.hid ht
 have HV:=Lib.hid hv
 have HS:=Lib.hid hs
 obtain ⟨a,cap,rfl⟩:=hv.form
 obtain ⟨n,hn⟩:∃ n,n=os.length:=⟨_,rfl⟩
 have HN:=Lib.hid hn
 rw [←hn] at HV hl ⊢
 have hmm:=@run_makeMap Tryz.prog
 have hmf:∀ (fn:Fn) (first cap:Array Value) (w:World),(Instr.makeFunc fn first cap).run Tryz.prog w = .ok (.func fn first cap) w:=fun _ _ _ _=>rfl
 clear ht hv hs hn h8
 go_enter Tryz.func3,Tryz.ntmps3
 go_wp2_with fail
 refine (eawake_any w HTB.out).mono ?_
 rintro e w2 ⟨rfl,hc2⟩
 have HC2:=Lib.hid hc2
 clear hc2
 by_cases h80:80<n
 ·go_wp2_with fail
  go_ret
  exact ⟨rfl,chg_below HC2.out⟩
 have HM:=Lib.hid (emade_any w2 (tab_chg HTB.out HC2.out) h (by omega))
 go_wp2_with fail
 refine HM.out.mono ?_
 rintro e w3 ⟨B,z,rfl,hA,m1,m2,m3,m4,m5,m6⟩
 obtain ⟨W0,hW0⟩:∃ W,W=w3.alloc (.cells #[.pointer (some ⟨B.tb,0,none⟩),.pointer (some ⟨B.sb,0,none⟩),.pointer (some ⟨B.lb,0,none⟩),.pointer (some ⟨B.eb,0,none⟩)] 29):=⟨_,rfl⟩
 obtain ⟨W1,hW1⟩:∃ W,W=W0.alloc (.cells #[.int .i64 (h:Int)] 3):=⟨_,rfl⟩
 obtain ⟨W2,hW2⟩:∃ W,W=W1.alloc (.cells #[.slice none 0 0] 32):=⟨_,rfl⟩
 obtain ⟨W3,hW3⟩:∃ W,W=W2.alloc (.cells #[.slice none 0 0] 32):=⟨_,rfl⟩
 obtain ⟨W4,hW4⟩:∃ W,W=W3.alloc (.map #[] 0):=⟨_,rfl⟩
 obtain ⟨W5,hW5⟩:∃ W,W=W4.alloc (.cells #[.map (some (w3.heap.size+4))] 33):=⟨_,rfl⟩
 obtain ⟨W6,hW6⟩:∃ W,W=W5.alloc (.cells #[.int .i64 0] 3):=⟨_,rfl⟩
 obtain ⟨W7,hW7⟩:∃ W,W=W6.alloc (.cells #[.int .i64 0] 3):=⟨_,rfl⟩
 obtain ⟨W8,hW8⟩:∃ W,W=W7.alloc (.cells #[.slice none 0 0] 32):=⟨_,rfl⟩
 have hJ:=pu_start hA m1 m2 m3 m4 m5 m6 (by omega) hW0 hW1 hW2 hW3 hW4 hW5 hW6 hW7 hW8
 have s0:W0.heap.size=w3.heap.size+1:=by rw [hW0];simp
 have s1:W1.heap.size=w3.heap.size+2:=by rw [hW1];simp [s0]
 have s2:W2.heap.size=w3.heap.size+3:=by rw [hW2];simp [s1]
 have s3:W3.heap.size=w3.heap.size+4:=by rw [hW3];simp [s2]
 have s4:W4.heap.size=w3.heap.size+5:=by rw [hW4];simp [s3]
 have s5:W5.heap.size=w3.heap.size+6:=by rw [hW5];simp [s4]
 have s6:W6.heap.size=w3.heap.size+7:=by rw [hW6];simp [s5]
 have s7:W7.heap.size=w3.heap.size+8:=by rw [hW7];simp [s6]
 obtain ⟨rb,hrb⟩:∃ r,r=w3.heap.size:=⟨_,rfl⟩
 rw [←hrb] at hJ
 have HJ8:Hid (PutE w2 W8 B rb 0 0):=Lib.hid ⟨z,_,[],[],0,0,hJ⟩
 have HW:=Lib.hid (And.intro hW0 (And.intro hW1 (And.intro hW2 (And.intro hW3 (And.intro hW4 (And.intro hW5 (And.intro hW6 (And.intro hW7 hW8))))))))
 have HSZ:=Lib.hid (And.intro s0 (And.intro s1 (And.intro s2 (And.intro s3 (And.intro s4 (And.intro s5 (And.intro s6 s7)))))))
 have HRB:=Lib.hid hrb
 obtain ⟨eb,tb,sb,mb,lb⟩:=B
 dsimp only at *
 clear hA m1 m2 m3 m4 m5 m6 hJ hW0 hW1 hW2 hW3 hW4 hW5 hW6 hW7 hW8 s0 s1 s2 s3 s4 s5 s6 s7 hrb
 go_upto_region 6 with fail
 rw [←HW.out.1]
 go_upto_region 15 with fail
 rw [HSZ.out.1]
 simp only [Nat.add_assoc,Nat.reduceAdd]
 rw [←HW.out.2.1,←HW.out.2.2.1,←HW.out.2.2.2.1,←HW.out.2.2.2.2.1,←HW.out.2.2.2.2.2.1,←HW.out.2.2.2.2.2.2.1,←HW.out.2.2.2.2.2.2.2.1,←HW.out.2.2.2.2.2.2.2.2,←HRB.out]
 clear hmm
 go_wp2_with fail
 go_loopw [11,48,91,97] (fun syv i u91 u97 wr=>∃ (k sy:Nat),k≤n∧i = .int .i64 (k:Int)∧syv = .int .i64 (sy:Int)∧SlOk wr u91∧SlOk wr u97∧Hid (PutE w2 wr ⟨eb,tb,sb,mb,lb⟩ rb k sy)) (fun _ i _ _ _=>n - (intOf i).toNat)
 case atStart=>exact ⟨0,0,Nat.zero_le _,rfl,rfl,(fun q n c e=>by cases e),(fun q n c e=>by cases e),HJ8⟩
 case round=>
  obtain ⟨k,sy,hk,rfl,rfl,hs91,hs97,HX⟩:=hrel
  clear HJ8 HW HSZ HRB HM
  have H91:=Lib.hid hs91
  have H97:=Lib.hid hs97
  clear hs91 hs97
  by_cases hlt:k<n
  ·skip
   obtain ⟨z0,y0,dn0,rs0,sn0,pt0,hJ0⟩:=HX.out
   have HJ0:=Lib.hid hJ0
   obtain ⟨x,hx⟩:∃ x,os[k]? = some x:=⟨_,List.getElem?_eq_getElem (by rw [←HN.out];exact hlt)⟩
   have hxm:=List.mem_of_getElem? hx
   obtain ⟨xk,xn,⟨⟨m1,m2,m3,m4,m5,m6,m7,m8,m9,m10⟩,va⟩⟩:=x
   have hok:=HS.out _ hxm
   have hcw:Chg (fun _=>False) w wr:=HC2.out.trans hJ0.pa.a.chg (fun _ _ e=>e)
   obtain ⟨a',cap',e',hh⟩:=HV.out.keep hcw
   rcases hh with hh|⟨b,o,rfl,hlow,hcell⟩
   ·rw [hh] at hx;cases hx
   have key:=hcell k _ hx
   obtain ⟨ka,kc,hva⟩:=hok.2.1.strs.form
   dsimp only at hva
   obtain ⟨kl,hkl⟩:∃ l,l=m10.length:=⟨_,rfl⟩
   rw [←hkl] at hva
   subst hva
   obtain ⟨hea,hec⟩:a=some ⟨b,o,none⟩∧cap=cap':=by injection e' with e1 e2 e3;exact ⟨e1,e3⟩
   subst hea
   clear e' hec hcell
   have f0:wr.cell? ⟨b,o+k*12,none⟩=some (.int .i64 xk):=by first|(simp [OpT.cells,MsgM.cells];done)|simpa [OpT.cells,MsgM.cells] using key 0 (by decide)
   have f1:wr.cell? ⟨b,o+k*12+1,none⟩=some (.int .i64 xn):=by first|(simp [OpT.cells,MsgM.cells];done)|simpa [OpT.cells,MsgM.cells] using key 1 (by decide)
   have f2:wr.cell? ⟨b,o+k*12+1+1,none⟩=some (.int .i64 m1):=by first|(simp [OpT.cells,MsgM.cells];done)|simpa [OpT.cells,MsgM.cells] using key 2 (by decide)
   have f3:wr.cell? ⟨b,o+k*12+1+1+1,none⟩=some (.int .i64 m2):=by first|(simp [OpT.cells,MsgM.cells];done)|simpa [OpT.cells,MsgM.cells] using key 3 (by decide)
   have f4:wr.cell? ⟨b,o+k*12+1+1+1+1,none⟩=some (.int .i64 m3):=by first|(simp [OpT.cells,MsgM.cells];done)|simpa [OpT.cells,MsgM.cells] using key 4 (by decide)
   have f5:wr.cell? ⟨b,o+k*12+1+1+1+1+1,none⟩=some (.int .i64 m4):=by first|(simp [OpT.cells,MsgM.cells];done)|simpa [OpT.cells,MsgM.cells] using key 5 (by decide)
   have f6:wr.cell? ⟨b,o+k*12+1+1+1+1+1+1,none⟩=some (.int .i64 m5):=by first|(simp [OpT.cells,MsgM.cells];done)|simpa [OpT.cells,MsgM.cells] using key 6 (by decide)
   have f7:wr.cell? ⟨b,o+k*12+1+1+1+1+1+1+1,none⟩=some (.int .i64 m6):=by first|(simp [OpT.cells,MsgM.cells];done)|simpa [OpT.cells,MsgM.cells] using key 7 (by decide)
   have f8:wr.cell? ⟨b,o+k*12+1+1+1+1+1+1+1+1,none⟩=some (.string m7):=by first|(simp [OpT.cells,MsgM.cells];done)|simpa [OpT.cells,MsgM.cells] using key 8 (by decide)
   have f9:wr.cell? ⟨b,o+k*12+1+1+1+1+1+1+1+1+1,none⟩=some (.string m8):=by first|(simp [OpT.cells,MsgM.cells];done)|simpa [OpT.cells,MsgM.cells] using key 9 (by decide)
   have f10:wr.cell? ⟨b,o+k*12+1+1+1+1+1+1+1+1+1+1,none⟩=some (.string m9):=by first|(simp [OpT.cells,MsgM.cells];done)|simpa [OpT.cells,MsgM.cells] using key 10 (by decide)
   have f11:wr.cell? ⟨b,o+k*12+1+1+1+1+1+1+1+1+1+1+1,none⟩=some (.slice ka kl kc):=by first|(simp [OpT.cells,MsgM.cells];done)|simpa [OpT.cells,MsgM.cells] using key 11 (by decide)
   obtain ⟨W1,hW1⟩:∃ W,W=wr.alloc (.cells #[.int .i64 xk,.int .i64 xn,.int .i64 m1,.int .i64 m2,.int .i64 m3,.int .i64 m4,.int .i64 m5,.int .i64 m6,.string m7,.string m8,.string m9,.slice ka kl kc] 38):=⟨_,rfl⟩
   obtain ⟨BX,hBX⟩:∃ b,b=wr.heap.size:=⟨_,rfl⟩
   have hc1:Chg (fun _=>False) wr W1:=by rw [hW1];exact Chg.alloc _ (Chg.refl _ _) _
   have hO1:BoxO W1 BX #[.int .i64 xk,.int .i64 xn,.int .i64 m1,.int .i64 m2,.int .i64 m3,.int .i64 m4,.int .i64 m5,.int .i64 m6,.string m7,.string m8,.string m9,.slice ka kl kc]:=by rw [hW1,hBX];exact heap_alloc_new wr _
   obtain ⟨W2,hW2⟩:∃ W,W=W1.alloc (.cells #[.int .i64 m1,.int .i64 m2,.int .i64 m3,.int .i64 m4,.int .i64 m5,.int .i64 m6,.string m7,.string m8,.string m9,.slice ka kl kc] 36):=⟨_,rfl⟩
   have hc2:Chg (fun _=>False) W1 W2:=by rw [hW2];exact Chg.alloc _ (Chg.refl _ _) _
   have hsz1:W1.heap.size=BX+1:=by rw [hW1,hBX];simp
   have hms:MsgsAt W2 (.slice (some ⟨BX+1,0,none⟩) 1 1) [((⟨m1,m2,m3,m4,m5,m6,m7,m8,m9,m10⟩:MsgM),.slice ka kl kc)]:=by
    refine ⟨_,1,rfl,.inr ⟨BX+1,0,rfl,by rw [hW2];simp [hsz1],fun i p hp j hj=>?_⟩⟩
    have hi:i=0:=by
     cases i with
     | zero=>rfl
     | succ i=>simp at hp
    subst hi
    simp at hp
    subst hp
    have hb2:W2.heap[BX+1]? = some (.cells #[.int .i64 m1,.int .i64 m2,.int .i64 m3,.int .i64 m4,.int .i64 m5,.int .i64 m6,.string m7,.string m8,.string m9,.slice ka kl kc] 36 (0,0)):=by rw [hW2,←hsz1];exact heap_alloc_new W1 _
    have hcl:(⟨m1,m2,m3,m4,m5,m6,m7,m8,m9,m10⟩:MsgM).cells (.slice ka kl kc) = #[.int .i64 m1,.int .i64 m2,.int .i64 m3,.int .i64 m4,.int .i64 m5,.int .i64 m6,.string m7,.string m8,.string m9,.slice ka kl kc]:=rfl
    rw [hcl]
    simp only [World.cell?,Nat.zero_mul,Nat.add_zero,Nat.zero_add,hb2]
    simp
   have hcw2:=(hcw.trans hc1 (fun _ _ e=>e)).trans hc2 (fun _ _ e=>e)
   have hgr:=great_msgs _ _ W2 hms (by simp) (fun p hp=>by
    rw [List.mem_singleton] at hp
    subst hp
    exact hok.2.1.below (chg_below hcw2))
   have HGR:=Lib.hid hgr
   have HW1:=Lib.hid hW1
   have HBX:=Lib.hid hBX
   have HW2:=Lib.hid hW2
   have HO1:=Lib.hid hO1
   have HC12:=Lib.hid (And.intro hc1 hc2)
   have HSZ1:=Lib.hid hsz1
   have hkx:=hO1.cell
   have HXN:Hid ((Lit.int .i64 xn).wf=true):=Lib.hid hok.1
   have HCP:Hid (CapOk (.slice ka kl kc)):=Lib.hid hok.2.2
   have HSW:Hid (Strs w 0 (.slice ka kl kc) m10):=Lib.hid hok.2.1.strs
   have hk80:k≤80:=by omega
   clear hx hxm hok hcw hlow key hkl hW1 hBX hc1 hO1 hW2 hc2 hsz1 hms hcw2 hgr hJ0 HX
   go_upto_region 18 with fail
   rw [←HW1.out,←HBX.out]
   clear f0 f1 f2 f3 f4 f5 f6 f7 f8 f9 f10 f11
   go_wp2_with fail
   rw [HSZ1.out,←HW2.out]
   refine HGR.out.mono ?_
   rintro e w4 ⟨zz,rfl,hf,hb4⟩
   have hc4:Chg (fun _=>False) W2 w4:=below_chg hb4
   have hc04:Chg (fun _=>False) wr w4:=(HC12.out.1.trans HC12.out.2 (fun _ _ e=>e)).trans hc4 (fun _ _ e=>e)
   have hJ4:=HJ0.out.new hc04
   have hO4:BoxO w4 BX #[.int .i64 xk,.int .i64 xn,.int .i64 m1,.int .i64 m2,.int .i64 m3,.int .i64 m4,.int .i64 m5,.int .i64 m6,.string m7,.string m8,.string m9,.slice ka kl kc]:=hc4.heap (HC12.out.2.heap HO1.out (fun e=>e)) (fun e=>e)
   have HJ4:=Lib.hid hJ4
   have HO4:=Lib.hid hO4
   have HZ4:Hid (wr.heap.size≤w4.heap.size):=Lib.hid hc04.size
   have HWB:Hid (∀ W,Chg (fun _=>False) w2 W→Below w.heap.size w W):=Lib.hid (fun W hW=>chg_below (HC2.out.trans hW (fun _ _ e=>e)))
   cases zz
   case true=>
    have HE:Hid (Below w.heap.size w w4):=Lib.hid (HWB.out _ hJ4.pa.a.chg)
    clear hf hb4 hc4 hc04 hJ4 hO4 hkx
    go_wp2_with fail
    go_ret
    exact ⟨rfl,HE.out⟩
   have HFN:Hid (Sound (⟨m1,m2,m3,m4,m5,m6,m7,m8,m9,m10⟩:MsgM)):=Lib.hid (hf rfl _ (List.mem_singleton.2 rfl)).sound
   have HOX:Hid (∀ i,¬ y0.part ⟨eb,tb,sb,mb,lb⟩ z0 rb i BX):=Lib.hid (fun i hi=>by
    have:=HJ0.out.pa.p.lt i BX hi
    rw [HBX.out] at this
    exact Nat.lt_irrefl _ this)
   have HST:Hid (∀ W,Chg (fun _=>False) w4 W→Strs W 0 (.slice ka kl kc) m10):=Lib.hid (fun W hW=>HSW.out.below (HWB.out W (HJ4.out.pa.a.chg.trans hW (fun _ _ e=>e))) (Nat.le_refl _))
   have hkx:=hO4.cell
   clear hf hb4 hc4 hc04 hJ4 hO4 HGR HW1 HBX HW2 HO1 HC12 HSZ1 HSW
   go_upto_block 2 with fail
   go_cut [11,91,97] (fun v11 v91 v97 wx=>∃ sy':Nat,v11 = .int .i64 (sy':Int)∧SlOk wx v91∧SlOk wx v97∧Hid (PutE w2 wx ⟨eb,tb,sb,mb,lb⟩ rb (k+1) sy'))
   case first=>
    by_cases e0:xk=0
    ·as_aux_lemma=>
     subst e0
     by_cases k12:m1=1∨m1=2
     ·have HCO:=Lib.hid (HJ4.out.pa.a.cost ⟨m1,m2,m3,m4,m5,m6,m7,m8,m9,m10⟩ (.slice ka kl kc) (HST.out w4 (Chg.refl _ _)) HCP.out HFN.out)
      unfold MsgM.val MsgM.cells at HCO
      dsimp only at HCO
      have x0:=HJ4.out.pa.p.rigs.1
      dsimp only at x0
      have HKI:Hid (m1=1∨m1=2):=Lib.hid k12
      have hcut0:∀ w5 (c:Nat),(c=0↔(⟨m1,m2,m3,m4,m5,m6,m7,m8,m9,m10⟩:MsgM).kind=0∨putO ⟨m1,m2,m3,m4,m5,m6,m7,m8,m9,m10⟩=none)→Below w4.heap.size w4 w5→PutJ w2 w5 ⟨eb,tb,sb,mb,lb⟩ z0 rb y0 dn0 rs0 k sy sn0 pt0∧BoxO w5 BX #[.int .i64 0,.int .i64 xn,.int .i64 m1,.int .i64 m2,.int .i64 m3,.int .i64 m4,.int .i64 m5,.int .i64 m6,.string m7,.string m8,.string m9,.slice ka kl kc]∧wr.heap.size≤w5.heap.size∧(c≠0→Calls Tryz.prog 12 #[.agg #[.pointer (some ⟨tb,0,none⟩),.pointer (some ⟨sb,0,none⟩),.pointer (some ⟨lb,0,none⟩),.pointer (some ⟨eb,0,none⟩)],.agg #[.int .i64 m1,.int .i64 m2,.int .i64 m3,.int .i64 m4,.int .i64 m5,.int .i64 m6,.string m7,.string m8,.string m9,.slice ka kl kc]] w5 fun e w'=>∃ z' bs,e = .returned (.tuple #[.int .i64 ((idL z0.x.l bs:Nat):Int),.bool true])∧MidJ w2 w' ⟨eb,tb,sb,mb,lb⟩ z0 z' rb y0 dn0 rs0 k sy sn0 pt0 ⟨m1,m2,m3,m4,m5,m6,m7,m8,m9,m10⟩ bs∧QTo w5 (z0.own ⟨eb,tb,sb,mb,lb⟩) w' (z'.own ⟨eb,tb,sb,mb,lb⟩)):=fun w5 c hc hb=>by
       have hcc:Chg (fun _=>False) w4 w5:=below_chg hb
       refine ⟨HJ4.out.new hcc,hcc.heap HO4.out (fun e=>e),Nat.le_trans HZ4.out hcc.size,fun hne=>?_⟩
       exact (HJ4.out.new hcc).add (by omega) ⟨m1,m2,m3,m4,m5,m6,m7,m8,m9,m10⟩ (.slice ka kl kc) (HST.out w5 hcc) HCP.out HFN.out (fun hx=>hne (hc.2 hx))
      have HC0:=Lib.hid hcut0
      clear hcut0
      rcases k12 with k1|k2
      ·subst k1
       go_wp2_with fail
       refine HCO.out.mono ?_
       rintro e w5 ⟨c,rfl,hcz,hb5⟩
       obtain ⟨hJ5,hO5,hz5,hadd⟩:=HC0.out w5 c hcz hb5
       have hkx:=hO5.cell
       obtain ⟨x0,x1,x2,x3⟩:=hJ5.pa.p.rigs
       dsimp only at x0 x1 x2 x3
       by_cases hc0:c=0
       ·subst hc0
        have HP:Hid (PutE w2 w5 ⟨eb,tb,sb,mb,lb⟩ rb (k+1) sy):=Lib.hid ⟨z0,y0,dn0,rs0,sn0,pt0,hJ5.more (Nat.le_succ _)⟩
        have HZ:=Lib.hid hz5
        clear hcz hb5 hJ5 hO5 hz5 hadd x0 x1 x2 x3 hkx
        go_wp2_with fail
        exact ⟨⟨k+1,sy,by omega,by go_num,rfl,H91.out.keep (HZ.out),H97.out.keep (HZ.out),HP⟩,by simp [intOf];omega⟩
       ·have HAD:=Lib.hid (hadd hc0)
        have hcn:((c:Int) == 0)=false:=by simp;omega
        have HO5:=Lib.hid hO5
        have HJ5:=Lib.hid hJ5
        have HZ:=Lib.hid hz5
        clear hcz hb5 hJ5 hO5 hz5 hadd hc0
        go_wp2_with fail
        refine HAD.out.mono ?_
        rintro e w6 ⟨z6,bs,rfl,hM6,hq6⟩
        have hO6:BoxO w6 BX #[.int .i64 0,.int .i64 xn,.int .i64 1,.int .i64 m2,.int .i64 m3,.int .i64 m4,.int .i64 m5,.int .i64 m6,.string m7,.string m8,.string m9,.slice ka kl kc]:=hq6.chg.heap HO5.out (fun hx=>HOX.out 12 (part_own hx))
        have hkx:=hO6.cell
        have HZ6:Hid (wr.heap.size≤w6.heap.size):=Lib.hid (Nat.le_trans HZ.out hq6.chg.size)
        have HP:Hid (PutE w2 w6 ⟨eb,tb,sb,mb,lb⟩ rb (k+1) sy):=Lib.hid ⟨z6,y0,dn0,_,sn0,pt0,hM6.msg rfl⟩
        clear hM6 hq6 hO6 x0 x1 x2 x3
        go_wp2_with fail
        go_meet
        case rel=>exact ⟨sy,rfl,H91.out.keep (HZ6.out),H97.out.keep (HZ6.out),HP⟩
      ·subst k2
       go_wp2_with fail
       refine HCO.out.mono ?_
       rintro e w5 ⟨c,rfl,hcz,hb5⟩
       obtain ⟨hJ5,hO5,hz5,hadd⟩:=HC0.out w5 c hcz hb5
       have hkx:=hO5.cell
       obtain ⟨x0,x1,x2,x3⟩:=hJ5.pa.p.rigs
       dsimp only at x0 x1 x2 x3
       by_cases hc0:c=0
       ·subst hc0
        have HP:Hid (PutE w2 w5 ⟨eb,tb,sb,mb,lb⟩ rb (k+1) sy):=Lib.hid ⟨z0,y0,dn0,rs0,sn0,pt0,hJ5.more (Nat.le_succ _)⟩
        have HZ:=Lib.hid hz5
        clear hcz hb5 hJ5 hO5 hz5 hadd x0 x1 x2 x3 hkx
        go_wp2_with fail
        exact ⟨⟨k+1,sy,by omega,by go_num,rfl,H91.out.keep (HZ.out),H97.out.keep (HZ.out),HP⟩,by simp [intOf];omega⟩
       ·have HAD:=Lib.hid (hadd hc0)
        have hcn:((c:Int) == 0)=false:=by simp;omega
        have HO5:=Lib.hid hO5
        have HJ5:=Lib.hid hJ5
        have HZ:=Lib.hid hz5
        clear hcz hb5 hJ5 hO5 hz5 hadd hc0
        go_wp2_with fail
        refine HAD.out.mono ?_
        rintro e w6 ⟨z6,bs,rfl,hM6,hq6⟩
        have hO6:BoxO w6 BX #[.int .i64 0,.int .i64 xn,.int .i64 2,.int .i64 m2,.int .i64 m3,.int .i64 m4,.int .i64 m5,.int .i64 m6,.string m7,.string m8,.string m9,.slice ka kl kc]:=hq6.chg.heap HO5.out (fun hx=>HOX.out 12 (part_own hx))
        have hkx:=hO6.cell
        have HZ6:Hid (wr.heap.size≤w6.heap.size):=Lib.hid (Nat.le_trans HZ.out hq6.chg.size)
        have hOX6:∀ i,¬ y0.part ⟨eb,tb,sb,mb,lb⟩ z6 rb i BX:=fun i hi=>by
         rcases hi with hi|hi|⟨hi,hx⟩
         ·exact HOX.out i (.inl hi)
         ·exact HOX.out i (.inr (.inl hi))
         ·rcases hq6.new BX hx with hy|hy
          ·exact HOX.out 12 (part_own hy)
          ·have:=(Array.getElem?_eq_some_iff.1 HO5.out).1;omega
        have hts:=fun u91 u92 u97 u98 h1 h2=>TwoG.start (u91:=u91) (u92:=u92) (u97:=u97) (u98:=u98) hM6 hO6 hOX6 h1 h2 (by omega)
        have HMJ:=Lib.hid hM6
        have HTS:=Lib.hid hts
        have HB23:Hid (y0.b 2=y0.rv 9∧y0.b 3=y0.rv 10):=Lib.hid ⟨hM6.c.b2,hM6.c.b3⟩
        obtain ⟨id,hid⟩:∃ x:Int,x=((idL z0.x.l bs:Nat):Int):=⟨_,rfl⟩
        rw [←hid] at HTS ⊢
        have HIDD:=Lib.hid hid
        clear hM6 hq6 hO6 hOX6 hts hid x0 x1 x2 x3
        go_upto_region 28 with fail
        have hTT:=HTS.out _ u92 _ u98 (H91.out.keep HZ6.out) (H97.out.keep HZ6.out)
        have HTC:=Lib.hid hTT.1
        have HTG:=Lib.hid hTT.2
        clear hTT hkx HTS
        refine region_pt (n:=231) 14 [3,9,10,11] rfl rfl (by kernel_rfl) (by kernel_rfl) (by kernel_rfl) (fun i v=>match i with|0=>v=y0.rv 9|1=>v = .int .i64 id|2=>(fun v=>∃ q,v = .slice (some ⟨q,0,none⟩) 1 1∧w6.heap.size≤q) v|4=>v=y0.rv 10|5=>v = .pointer (some ⟨BX,2,none⟩)|6=>v = .pointer (some ⟨BX,4,none⟩)|7=>v = .int .i64 m3|8=>(fun v=>∃ q,v = .slice (some ⟨q,0,none⟩) 1 1∧w6.heap.size≤q) v|_=>True)
         (fun p f w'=>TwoG w2 ⟨eb,tb,sb,mb,lb⟩ z6 rb y0 dn0 (rs0 ++ [⟨idL z0.x.l bs,bs.length,⟨2,m2,m3,m4,m5,m6,m7,m8,m9,m10⟩⟩]) (k+1) id m3 BX w6.heap.size #[.int .i64 0,.int .i64 xn,.int .i64 2,.int .i64 m2,.int .i64 m3,.int .i64 m4,.int .i64 m5,.int .i64 m6,.string m7,.string m8,.string m9,.slice ka kl kc] p (f 91) (f 92) (f 97) (f 98) w') ?_ ?_ ?_
        ·exact HTG.out.new (Chg.refl _ _).drew
        ·simp only [AllAt]
         refine ⟨?_,?_,?_,?_,?_,?_,?_,?_,?_,?_,?_,?_,trivial⟩
         ·refine StepPT.reg (fun f hp=>wanted_none rfl) (by decide) (fun d hd=>by cases hd;decide) ?_
          intro f w' p hG hup hdn hfr hp K hK
          have g8:f 8 = .pointer (some ⟨rb+2,0,none⟩):=hfr 8 (by kernel_rfl)
          have hpp:p≤0:=by have:=hdn 0 (by decide) (.inl (by kernel_rfl));omega
          obtain rfl:p=0:=by omega
          have c2:=hG.box2 HB23.out.1
          clear hfr hp hup hdn
          go_simp
          exact hK _ _ rfl hG
         ·refine StepPT.reg (fun f hp=>wanted_none rfl) (by decide) (fun d hd=>by cases hd;decide) ?_
          intro f w' p hG hup hdn hfr hp K hK
          have g18:f 18 = .int .i64 id:=hfr 18 (by kernel_rfl)
          clear hfr hp hup hdn
          go_simp
          exact hK _ _ rfl hG
         ·refine StepPT.reg (fun f hp=>wanted_none rfl) (by decide) (fun d hd=>by cases hd;decide) ?_
          intro f w' p hG hup hdn hfr hp K hK
          have g90:f 90 = .int .i64 id:=hp 1 _ 90 rfl rfl (by kernel_rfl)
          clear hfr hp hup hdn
          go_simp
          exact hK _ _ ⟨_,rfl,hG.sz⟩ hG.b91
         ·refine StepPT.wr 0 (fun f hp=>wanted_none rfl) (by decide) rfl (fun d hd=>by cases hd;decide) (fun j hj=>by omega) ?_
          intro f w' hG hfr hp K hK
          have g89:f 89=y0.rv 9:=hp 0 _ 89 rfl rfl (by kernel_rfl)
          have r91:(fun v=>∃ q,v = .slice (some ⟨q,0,none⟩) 1 1∧w6.heap.size≤q) (f 91):=hp 2 _ 91 rfl rfl (by kernel_rfl)
          clear hfr hp
          obtain ⟨q,hq,hb⟩:=r91
          obtain ⟨v',w2',hrun,hG2⟩:=hG.app1 HTC.out hq hb 32
          unfold Oper.wp
          simp [execOp,resolve,invoke,builtin,fr_eval,g89,hq,hrun,Result.andThen]
          exact hK _ _ (fun _=>trivial) hG2
         ·refine StepPT.reg (fun f hp=>wanted_none rfl) (by decide) (fun d hd=>by cases hd;decide) ?_
          intro f w' p hG hup hdn hfr hp K hK
          have g9:f 9 = .pointer (some ⟨rb+3,0,none⟩):=hfr 9 (by kernel_rfl)
          have hpp:p≤1:=by have:=hdn 1 (by decide) (.inl (by kernel_rfl));omega
          have c3:=hG.box3 hpp HB23.out.2
          clear hpp
          clear hfr hp hup hdn
          go_simp
          exact hK _ _ rfl hG
         ·refine StepPT.reg (fun f hp=>wanted_none rfl) (by decide) (fun d hd=>by cases hd;decide) ?_
          intro f w' p hG hup hdn hfr hp K hK
          have g17:f 17 = .pointer (some ⟨BX,0,none⟩):=hfr 17 (by kernel_rfl)
          clear hfr hp hup hdn
          go_simp
          exact hK _ _ rfl hG
         ·refine StepPT.reg (fun f hp=>wanted_none rfl) (by decide) (fun d hd=>by cases hd;decide) ?_
          intro f w' p hG hup hdn hfr hp K hK
          have g94:f 94 = .pointer (some ⟨BX,2,none⟩):=hp 5 _ 94 rfl rfl (by kernel_rfl)
          clear hfr hp hup hdn
          go_simp
          exact hK _ _ rfl hG
         ·refine StepPT.reg (fun f hp=>wanted_none rfl) (by decide) (fun d hd=>by cases hd;decide) ?_
          intro f w' p hG hup hdn hfr hp K hK
          have g95:f 95 = .pointer (some ⟨BX,4,none⟩):=hp 6 _ 95 rfl rfl (by kernel_rfl)
          have c4:=hG.b.cell 4
          clear hfr hp hup hdn
          go_simp
          exact hK _ _ rfl hG
         ·refine StepPT.reg (fun f hp=>wanted_none rfl) (by decide) (fun d hd=>by cases hd;decide) ?_
          intro f w' p hG hup hdn hfr hp K hK
          have g96:f 96 = .int .i64 m3:=hp 7 _ 96 rfl rfl (by kernel_rfl)
          clear hfr hp hup hdn
          go_simp
          exact hK _ _ ⟨_,rfl,hG.sz⟩ hG.b97
         ·refine StepPT.wr 1 (fun f hp=>wanted_none rfl) (by decide) rfl (fun d hd=>by cases hd;decide) (fun j hj=>by (obtain rfl:j=0:=(by omega));kernel_rfl) ?_
          intro f w' hG hfr hp K hK
          have g93:f 93=y0.rv 10:=hp 4 _ 93 rfl rfl (by kernel_rfl)
          have r97:(fun v=>∃ q,v = .slice (some ⟨q,0,none⟩) 1 1∧w6.heap.size≤q) (f 97):=hp 8 _ 97 rfl rfl (by kernel_rfl)
          clear hfr hp
          obtain ⟨q,hq,hb⟩:=r97
          obtain ⟨v',w2',hrun,hG2⟩:=hG.app2 HTC.out hq hb 32
          unfold Oper.wp
          simp [execOp,resolve,invoke,builtin,fr_eval,g93,hq,hrun,Result.andThen]
          exact hK _ _ (fun _=>trivial) hG2
         ·refine StepPT.wr 2 (fun f hp=>wanted_none rfl) (by decide) rfl (fun d hd=>by cases hd) (fun j hj=>by rcases (by omega:j=0∨j=1) with rfl|rfl<;>kernel_rfl) ?_
          intro f w' hG hfr hp K hK
          have g8:f 8 = .pointer (some ⟨rb+2,0,none⟩):=hfr 8 (by kernel_rfl)
          clear hfr hp
          obtain ⟨⟨ov,c2⟩,f2⟩:=hG.fre (Nat.le_refl _) (by decide) 2 rfl
          obtain ⟨_,⟨va,vn,vc,g92⟩,_⟩:=hG.m
          have HG2:=Lib.hid (hG.st1 HTC.out)
          have HEQ:Hid (w'.setCell ⟨rb+2,0,none⟩ (.slice va vn vc)=w'.setCell ⟨rb+2,0,none⟩ (f 92)):=Lib.hid (by rw [g92])
          clear hG
          go_simp
          rw [HEQ.out]
          exact hK undef _ (fun _=>trivial) HG2.out
         ·refine StepPT.wr 3 (fun f hp=>wanted_none rfl) (by decide) rfl (fun d hd=>by cases hd) (fun j hj=>by rcases (by omega:j=0∨j=1∨j=2) with rfl|rfl|rfl<;>kernel_rfl) ?_
          intro f w' hG hfr hp K hK
          have g9:f 9 = .pointer (some ⟨rb+3,0,none⟩):=hfr 9 (by kernel_rfl)
          clear hfr hp
          obtain ⟨⟨ov,c3⟩,f3⟩:=hG.fre (by decide) (Nat.le_refl _) 3 rfl
          obtain ⟨_,_,⟨va,vn,vc,g98⟩⟩:=hG.m
          have HG2:=Lib.hid (hG.st2 HTC.out)
          have HEQ:Hid (w'.setCell ⟨rb+3,0,none⟩ (.slice va vn vc)=w'.setCell ⟨rb+3,0,none⟩ (f 98)):=Lib.hid (by rw [g98])
          clear hG
          go_simp
          rw [HEQ.out]
          exact hK undef _ (fun _=>trivial) HG2.out
        ·intro f w7 hG hfr hR
         have hpa:PuA w2 w7 ⟨eb,tb,sb,mb,lb⟩ z6 rb (twoX y0 (f 92) (f 98) id m3) dn0 (rs0 ++ [⟨idL z0.x.l bs,bs.length,⟨2,m2,m3,m4,m5,m6,m7,m8,m9,m10⟩⟩]) (k+1) (k+1):=hG.m
         have HP:Hid (PutE w2 w7 ⟨eb,tb,sb,mb,lb⟩ rb (k+1) sy):=Lib.hid (by rw [HIDD.out] at hpa;exact ⟨z6,_,dn0,_,sn0,pt0,HMJ.out.sched rfl hpa⟩)
         obtain ⟨q91,hq91,hb91⟩:∃ q,f 91 = .slice (some ⟨q,0,none⟩) 1 1∧w6.heap.size≤q:=hR 2 _ 91 rfl rfl
         obtain ⟨q97,hq97,hb97⟩:∃ q,f 97 = .slice (some ⟨q,0,none⟩) 1 1∧w6.heap.size≤q:=hR 8 _ 97 rfl rfl
         have HS91:Hid (SlOk w7 (f 91)):=Lib.hid (fun q n c e=>by rw [hq91] at e;cases e;exact (hG.s91 q91 hq91 hb91).2)
         have HS97:Hid (SlOk w7 (f 97)):=Lib.hid (fun q n c e=>by rw [hq97] at e;cases e;exact (hG.s97 q97 hq97 hb97).2)
         have hback:=fr_back (n:=231) (f:=f) (D:=[89,90,91,92,93,94,95,96,97,98]) rfl (by kernel_rfl) hfr
         rw [hback]
         simp only [mixL,List.elem_eq_contains,List.contains_cons,List.contains_nil,Nat.reduceBEq,Nat.reduceAdd,Bool.or_false,Bool.or_true,Bool.false_or,Bool.true_or,cond_false,cond_true,Bool.or_self,Nat.zero_add]
         clear hback hfr hG hR hpa hq91 hb91 hq97 hb97
         go_wp2_with fail
         go_meet
         case rel=>exact ⟨sy,rfl,HS91.out,HS97.out,HP⟩
     ·have n1:(m1 == 1)=false:=by simp;exact fun e=>k12 (.inl e)
      have n2:(m1 == 2)=false:=by simp;exact fun e=>k12 (.inr e)
      have n1':(m1 != 1)=true:=by simp;exact fun e=>k12 (.inl e)
      have n2':(m1 != 2)=true:=by simp;exact fun e=>k12 (.inr e)
      have HP:Hid (PutE w2 w4 ⟨eb,tb,sb,mb,lb⟩ rb (k+1) sy):=Lib.hid ⟨z0,y0,dn0,rs0,sn0,pt0,HJ4.out.more (Nat.le_succ _)⟩
      clear k12
      go_wp2_with fail
      exact ⟨⟨k+1,sy,by omega,by go_num,rfl,H91.out.keep (HZ4.out),H97.out.keep (HZ4.out),HP⟩,by simp [intOf];omega⟩
    by_cases e1:xk=1
    ·as_aux_lemma=>
     subst e1
     have HSY:=Lib.hid (HJ4.out.sync (by omega))
     have x0:=HJ4.out.pa.p.rigs.1
     dsimp only at x0
     go_wp2_with fail
     refine HSY.out.mono ?_
     rintro e w5 ⟨rfl,z5,hJ5,hq5⟩
     obtain ⟨va,vc,hv⟩:=hJ5.row9
     have c2:=hJ5.cells.2.1
     rw [hv] at c2
     obtain ⟨L9,hL9⟩:∃ x,x=(y0.rl 9).length:=⟨_,rfl⟩
     rw [←hL9] at c2
     have HP:Hid (PutE w2 w5 ⟨eb,tb,sb,mb,lb⟩ rb (k+1) L9):=Lib.hid ⟨z5,y0,dn0,rs0,sn0,pt0,by rw [hL9];exact hJ5⟩
     have HZ:Hid (wr.heap.size≤w5.heap.size):=Lib.hid (Nat.le_trans HZ4.out hq5.chg.size)
     clear hJ5 hq5 hv hL9 hkx x0
     go_wp2_with fail
     go_meet
     case rel=>exact ⟨L9,rfl,H91.out.keep (HZ.out),H97.out.keep (HZ.out),HP⟩
    by_cases e2:xk=2
    ·as_aux_lemma=>
     subst e2
     have HSP:=Lib.hid (HJ4.out.step (by omega))
     have x3:=HJ4.out.pa.p.rigs.2.2.2
     dsimp only at x3
     go_wp2_with fail
     refine HSP.out.mono ?_
     rintro e w5 ⟨hz5,(⟨rfl,hse,z5,d5,r5,hJ5⟩|⟨rfl,hse,z5,d5,r5,y5,hM5⟩)⟩
     ·have c6:=hJ5.cells.2.2.2.2.1
      have HP:Hid (PutE w2 w5 ⟨eb,tb,sb,mb,lb⟩ rb (k+1) sy):=Lib.hid ⟨z5,y0,d5,r5,sn0,pt0,hJ5⟩
      have HZ:Hid (wr.heap.size≤w5.heap.size):=Lib.hid (Nat.le_trans HZ4.out hz5)
      have hne:¬ (sn0:Int)<(sy:Int):=by omega
      clear hJ5 hz5 hkx x3 hse
      go_wp2_with fail
      go_meet
      case rel=>exact ⟨sy,rfl,H91.out.keep (HZ.out),H97.out.keep (HZ.out),HP⟩
     ·obtain ⟨c6,_⟩:=hM5.pa.p.cell 6 rfl
      rw [hM5.c.b6] at c6
      have hcl:=hM5.clo
      unfold cloV at hcl
      have HCL:=Lib.hid hcl
      have HZ:Hid (wr.heap.size≤w5.heap.size):=Lib.hid (Nat.le_trans HZ4.out hz5)
      have hne:(sn0:Int)<(sy:Int):=by omega
      clear hM5 hz5 hkx x3 hse hcl
      go_wp2_with fail
      refine HCL.out.mono ?_
      rintro e w6 ⟨rfl,hz6,z6,x6,sn6,pt6,hJ6⟩
      have HP:Hid (PutE w2 w6 ⟨eb,tb,sb,mb,lb⟩ rb (k+1) sy):=Lib.hid ⟨z6,x6,d5,r5,sn6,pt6,hJ6⟩
      have HZ6:Hid (wr.heap.size≤w6.heap.size):=Lib.hid (Nat.le_trans HZ.out hz6)
      clear hJ6 hz6 c6
      go_wp2_with fail
      go_meet
      case rel=>exact ⟨sy,rfl,H91.out.keep (HZ6.out),H97.out.keep (HZ6.out),HP⟩
    by_cases e3:xk=3
    ·as_aux_lemma=>
     subst e3
     have hln:=HJ4.out.lens
     have HAL:=Lib.hid (HJ4.out.all_ (by omega))
     have x3:=HJ4.out.pa.p.rigs.2.2.2
     dsimp only at x3
     obtain ⟨df,hdf⟩:∃ x:Int,x=(sy:Int) - (sn0:Int):=⟨_,rfl⟩
     rw [←hdf] at HAL
     have ew:IntKind.i64.wrap ((sy:Int) - (sn0:Int))=df:=by rw [IntWalk.i64_in _ (by omega),hdf]
     clear hdf
     go_wp2_with fail
     refine HAL.out.mono ?_
     rintro e w5 ⟨rfl,hz5,z5,d5,r5,hM5⟩
     obtain ⟨c6,_⟩:=hM5.pa.p.cell 6 rfl
     rw [hM5.c.b6] at c6
     have HM5:=Lib.hid hM5
     have HZ:Hid (wr.heap.size≤w5.heap.size):=Lib.hid (Nat.le_trans HZ4.out hz5)
     have HSQ:=Lib.hid hM5.sq
     clear hM5 hz5 hkx x3 hln
     go_wp2_with fail
     obtain ⟨NR,hNR⟩:∃ x,x=wr.heap.size:=⟨_,rfl⟩
     rw [←hNR] at HZ
     have HNR:=Lib.hid hNR
     clear hNR
     obtain ⟨N,hN⟩:∃ x,x=(schd d5).length:=⟨_,rfl⟩
     have HNN:=Lib.hid hN
     clear hN c6
     go_loopg [] N (fun gg wx=>∃ (m sn6 pt6:Nat) (x6:PuG),m≤N∧gg=N - m∧Hid (NR≤wx.heap.size)∧Hid (AllM w2 wx ⟨eb,tb,sb,mb,lb⟩ z0 z5 rb y0 x6 dn0 rs0 d5 r5 (k+1) sy sn0 sn6 pt0 pt6 m))
     case atStart=>exact ⟨0,sn0,pt0,y0,Nat.zero_le _,rfl,HZ,HM5⟩
     case round=>
      obtain ⟨m,sn6,pt6,x6,hm,hgg,HZ6,HM6⟩:=hrel
      obtain ⟨c6,_⟩:=HM6.out.pa.p.cell 6 rfl
      rw [HM6.out.c.b6] at c6
      have hsn:=HM6.out.sn
      have hsq:=HSQ.out
      rw [←HNN.out] at hsq
      by_cases hlm:m<N
      ·have hne:(sn6:Int)<(sy:Int):=by omega
       have hcl:=HM6.out.clo (by rw [←HNN.out];exact hlm)
       unfold cloV at hcl
       have HCL:=Lib.hid hcl
       have HGG:=Lib.hid hgg
       clear hcl hsn hsq hgg
       go_wp2_with fail
       refine HCL.out.mono ?_
       rintro e w7 ⟨rfl,hz7,x7,sn7,pt7,hM7⟩
       have HM7:=Lib.hid hM7
       have HZ7:Hid (NR≤w7.heap.size):=Lib.hid (Nat.le_trans HZ6.out hz7)
       clear hM7 hz7 c6
       go_wp2_with fail
       go_roundg (N - (m+1))
       case measure=>have:=HGG.out;omega
       case rel=>exact ⟨m+1,sn7,pt7,x7,by omega,rfl,HZ7,HM7⟩
      ·have hne:¬ (sn6:Int)<(sy:Int):=by omega
       have hmN:m=(schd d5).length:=by rw [←HNN.out];omega
       have HP:Hid (PutE w2 wr ⟨eb,tb,sb,mb,lb⟩ rb (k+1) sy):=Lib.hid ⟨z5,x6,_,r5,sn6,pt6,HM6.out.done_ hmN⟩
       clear hmN hsn hsq hgg
       go_wp2_with fail
       go_meet
       case rel=>exact ⟨sy,rfl,H91.out.keep (by rw [←HNR.out];exact HZ6.out),H97.out.keep (by rw [←HNR.out];exact HZ6.out),HP⟩
    by_cases e4:xk=4
    ·as_aux_lemma=>
     subst e4
     have hln:=HJ4.out.lens
     have hhd:=HJ4.out.hd
     have HTK:=Lib.hid (HJ4.out.tick (by omega))
     have x2:=HJ4.out.pa.p.rigs.2.2.1
     dsimp only at x2
     have c1:=HJ4.out.cells.1
     have ew:IntKind.i64.wrap ((z0.hd:Int)+1)=((z0.hd+1:Nat):Int):=by rw [IntWalk.i64_in _ (by omega)];omega
     obtain ⟨hd1,hh1⟩:∃ x:Int,x=((z0.hd+1:Nat):Int):=⟨_,rfl⟩
     rw [←hh1] at ew HTK
     have HH1:=Lib.hid hh1
     have hpt:pt0≤100:=by omega
     clear hh1 hln hhd
     go_wp2_with fail
     refine HTK.out.mono ?_
     rintro e w5 ⟨a5,n5,cap5,hn5,rfl,z5,hA5,hq5,hfin⟩
     obtain ⟨u1,f1⟩:=hA5.p.cell 1 rfl
     rw [HJ4.out.c.b1] at u1
     have hA6:=hA5.set 1 rfl (.int .i64 ((z0.hd+1:Nat):Int))
     obtain ⟨u7,f7⟩:=hA6.p.cell 7 rfl
     have e7:({ y0 with b:=updN y0.b 1 (.int .i64 ((z0.hd+1:Nat):Int))}:PuG).b 7 = .int .i64 (pt0:Int):=HJ4.out.c.b7
     rw [e7] at u7
     have hA7:=hA6.set 7 rfl (.int .i64 ((pt0 - n5:Nat):Int))
     have hJ7:=hfin _ hA7
     have HP:Hid (PutE w2 _ ⟨eb,tb,sb,mb,lb⟩ rb (k+1) sy):=Lib.hid ⟨z5,_,dn0,rs0,sn0,pt0 - n5,hJ7⟩
     have ew2:IntKind.i64.wrap ((pt0:Int) - (n5:Int))=((pt0 - n5:Nat):Int):=by rw [IntWalk.i64_in _ (by omega)];omega
     obtain ⟨pn,hpn⟩:∃ x:Int,x=((pt0 - n5:Nat):Int):=⟨_,rfl⟩
     rw [←hpn] at ew2 HP
     rw [←HH1.out] at HP u7 f7
     have HZ:Hid (wr.heap.size≤w5.heap.size):=Lib.hid (Nat.le_trans HZ4.out hq5.chg.size)
     clear hA5 hA6 hA7 hJ7 hfin hq5 e7 hpn hkx x2 c1 hn5
     go_wp2_with fail
     go_meet
     case rel=>exact ⟨sy,rfl,H91.out.keep (by simp;exact HZ.out),H97.out.keep (by simp;exact HZ.out),HP⟩
    by_cases e5:xk=5
    ·as_aux_lemma=>
     subst e5
     have hln:=HJ4.out.lens
     obtain ⟨va,vc,hv⟩:=HJ4.out.row9
     have c2:=HJ4.out.cells.2.1
     rw [hv] at c2
     obtain ⟨L9,hL9⟩:∃ x,x=(y0.rl 9).length:=⟨_,rfl⟩
     rw [←hL9] at c2
     have HJM:Hid (PutE w2 w4 ⟨eb,tb,sb,mb,lb⟩ rb (k+1) sy):=Lib.hid ⟨z0,y0,dn0,rs0,sn0,pt0,HJ4.out.more (Nat.le_succ _)⟩
     have HLN:=Lib.hid hln
     have HL9:=Lib.hid hL9
     have HV9:=Lib.hid hv
     clear hln hv hL9
     by_cases hr0:xn<0
     ·have hd0:decide (0≤xn)=false:=by simpa using hr0
      go_wp2_with fail
      go_meet
      case rel=>exact ⟨sy,rfl,H91.out.keep (HZ4.out),H97.out.keep (HZ4.out),HJM⟩
     by_cases hr1:(L9:Int)≤xn
     ·go_wp2_with fail
      go_meet
      case rel=>exact ⟨sy,rfl,H91.out.keep (HZ4.out),H97.out.keep (HZ4.out),HJM⟩
     obtain ⟨nn,rfl⟩:∃ nn:Nat,xn=(nn:Int):=⟨xn.toNat,by omega⟩
     have hnl:nn<L9:=by omega
     obtain ⟨ai,hai⟩:∃ ai,(y0.rl 9)[nn]? = some ai:=⟨_,List.getElem?_eq_getElem (by rw [←HL9.out];exact hnl)⟩
     have hrow:=HJ4.out.pa.p.row 9 (by decide) (by decide)
     rw [HV9.out] at hrow
     obtain ⟨ig,rfl,hic⟩:=hrow.at_ layK hai
     have ci:=hic 0 (.int .i64 ai) rfl
     rw [Nat.mul_one,Nat.add_zero] at ci
     have hawf:(Lit.int .i64 ai).wf=true:=by
      have hm:ai∈y0.rl 9:=List.mem_of_getElem? hai
      rw [HJ4.out.l.I] at hm
      obtain ⟨q,hq,rfl⟩:=List.mem_map.1 hm
      have h1:=HJ4.out.pa.a.recs q (List.mem_filter.1 hq).1
      have h2:=HJ4.out.pa.a.len
      exact twf_nat _ (by omega)
     have x1:=HJ4.out.pa.p.rigs.2.1
     dsimp only at x1
     have HCN:Hid (∀ W,Chg (fun _=>False) w4 W→_):=Lib.hid (fun W (hW:Chg (fun _=>False) w4 W)=>(HJ4.out.new hW).cancel (by omega) hai hawf)
     have hlt9:(nn:Int)<(L9:Int):=by omega
     clear hrow hic hai hawf
     go_upto_region 53 with fail
     go_still_tail 8,(by kernel_rfl)
     repeat still_step
     change wpList _ _ _ _ _ w4.drew
     have hcd:Chg (fun _=>False) w4 w4.drew:=(Chg.refl _ _).drew
     have HCNd:=Lib.hid (HCN.out w4.drew hcd)
     have hOd:BoxO w4.drew BX #[.int .i64 5,.int .i64 (nn:Int),.int .i64 m1,.int .i64 m2,.int .i64 m3,.int .i64 m4,.int .i64 m5,.int .i64 m6,.string m7,.string m8,.string m9,.slice ka kl kc]:=hcd.heap HO4.out (fun e=>e)
     have HOd:=Lib.hid hOd
     have HZd:Hid (wr.heap.size≤w4.drew.heap.size):=Lib.hid (Nat.le_trans HZ4.out hcd.size)
     have HOXd:Hid (∀ i,¬ y0.part ⟨eb,tb,sb,mb,lb⟩ z0 rb i BX):=HOX
     clear hcd hOd ci c2 x1 hkx HCN
     generalize w4.drew=w5 at HCNd HOd HZd ⊢
     go_wp2_with fail
     refine HCNd.out.mono ?_
     rintro e w6 ⟨b6,rfl,z6,hA6,hq6,hfin⟩
     obtain ⟨u5,_⟩:=hA6.p.cell 5 rfl
     rw [HJ4.out.c.b5] at u5
     have hO6:BoxO w6 BX #[.int .i64 5,.int .i64 (nn:Int),.int .i64 m1,.int .i64 m2,.int .i64 m3,.int .i64 m4,.int .i64 m5,.int .i64 m6,.string m7,.string m8,.string m9,.slice ka kl kc]:=hq6.chg.heap HOd.out (fun hx=>HOX.out 12 (part_own hx))
     have hkx:=hO6.cell
     have hGn:y0.G.length≤k:=HJ4.out.G
     have HA6:=Lib.hid hA6
     have HFIN:=Lib.hid hfin
     have HZ6:Hid (wr.heap.size≤w6.heap.size):=Lib.hid (Nat.le_trans HZd.out hq6.chg.size)
     have hnw:(Lit.int .i64 (nn:Int)).wf=true:=twf_nat _ (by have:=HLN.out;have:=HL9.out;omega)
     clear hA6 hq6 hfin hO6
     go_wp2_with (with_reducible refine wpList_store_ib rfl (.tmp 193) (.tmp 195) (.const (.bool true)) rfl (rb+4) y0.G (nn:Int) true rfl rfl rfl ?c1 ?c2 ?c3 ?c4)
     case c1=>exact HA6.out.p.map
     case c2=>exact hnw
     case c3=>unfold maxLen;omega
     case c4=>
      intro w7 hm7 hg7 hs7
      have hc7:Chg (fun q=>q=rb+4) w6 w7:=Chg.of_grown hg7 (fun q hq _=>(Option.some.inj hq).symm)
      have hA7:=HA6.out.mapped hm7 hc7
      have hJ7:=HFIN.out _ hA7
      have HP:Hid (PutE w2 w7 ⟨eb,tb,sb,mb,lb⟩ rb (k+1) sy):=Lib.hid ⟨z6,_,dn0,rs0,sn0,pt0,hJ7⟩
      have HZ7:Hid (wr.heap.size≤w7.heap.size):=Lib.hid (Nat.le_trans HZ6.out hc7.size)
      clear hm7 hg7 hs7 hc7 hA7 hJ7 u5 hkx
      go_wp2_with fail
      go_meet
      case rel=>exact ⟨sy,rfl,H91.out.keep (HZ7.out),H97.out.keep (HZ7.out),HP⟩
    have HP:Hid (PutE w2 w4 ⟨eb,tb,sb,mb,lb⟩ rb (k+1) sy):=Lib.hid ⟨z0,y0,dn0,rs0,sn0,pt0,HJ4.out.more (Nat.le_succ _)⟩
    go_wp2_with fail
    go_meet
    case rel=>exact ⟨sy,rfl,H91.out.keep (HZ4.out),H97.out.keep (HZ4.out),HP⟩
   case rest=>
    obtain ⟨sy7,rfl,hs91,hs97,HP⟩:=hcut
    obtain ⟨z7,y7,d7,r7,sn7,pt7,hJ7⟩:=HP.out
    have hwt:=hJ7.pa.a.waits
    rw [←hJ7.l.pu] at hwt
    have HWT:=Lib.hid hwt
    have hln:=hJ7.lens
    obtain ⟨lf,hlf⟩:∃ x,x=leftN z7 r7:=⟨_,rfl⟩
    have hsq:sy7=sn7+lf:=by rw [hlf];exact hJ7.l.sq
    have ew:IntKind.i64.wrap ((sy7:Int) - (sn7:Int))=(lf:Int):=by rw [IntWalk.i64_in _ (by omega)];omega
    have x2:=hJ7.pa.p.rigs.2.2.1
    dsimp only at x2
    have HJ7:=Lib.hid hJ7
    have HLN:=Lib.hid hlf
    have H917:=Lib.hid hs91
    have H977:=Lib.hid hs97
    have hk81:k+1≤81:=by omega
    clear HP hwt hln hlf hsq hJ7 hs91 hs97 HJ4 HO4 HZ4 HWB HFN HOX HST HCP HXN hkx H91 H97 HJ0
    go_wp2_with fail
    refine HWT.out.mono ?_
    rintro e w8 ⟨rfl,hc8⟩
    have HJ8:=Lib.hid (HJ7.out.new hc8)
    have HLF:Hid (∀ W,Chg (fun _=>False) w8 W→Calls Tryz.prog 19 #[.pointer (some ⟨eb,0,none⟩)] W fun e w'=>e = .returned (.int .i64 (lf:Int))∧Chg (fun _=>False) W w'):=Lib.hid (fun W hW=>by
     have:=eleft_any (HJ8.out.new hW).pa.a (by omega) (by omega)
     rw [←HLN.out] at this
     exact this)
    have HSZ8:Hid (wc.heap.size≤w8.heap.size):=Lib.hid hc8.size
    clear hc8 x2
    go_upto_region 56 with fail
    refine region_pt (n:=231) 18 [10] rfl rfl (by kernel_rfl) (by kernel_rfl) (by kernel_rfl) (fun i v=>match i with|0=>v = .int .i64 0|1=>v = .bool false|2=>v = .bool false|3=>v = .int .i64 (pt7:Int)|4=>v = .int .i64 (pt7:Int)|5=>v = .bool false|6=>v = .bool false|7=>v = .bool false|8=>v = .pointer (some ⟨rb,3,none⟩)|9=>v = .pointer (some ⟨eb,0,none⟩)|10=>v = .int .i64 (lf:Int)|11=>v = .int .i64 (sy7:Int)|12=>v = .int .i64 (sn7:Int)|13=>v = .int .i64 (lf:Int)|14=>v = .bool false|15=>v = .bool false|_=>True)
     (fun p f w'=>Chg (fun _=>False) w8 w') ?_ ?_ ?_
    ·exact (Chg.refl _ _).drew
    ·simp only [AllAt]
     refine ⟨?_,?_,?_,?_,?_,?_,?_,?_,?_,?_,?_,?_,?_,?_,?_,?_,trivial⟩
     ·refine StepPT.reg (fun f hp=>wanted_none rfl) (by decide) (fun d hd=>by cases hd;decide) ?_
      intro f w' p hG hup hdn hfr hp K hK
      have g28:f 28 = .int .i64 0:=hfr 28 (by kernel_rfl)
      clear hfr hp hup hdn
      go_simp
      exact hK _ _ rfl hG
     ·refine StepPT.reg (fun f hp=>wanted_none rfl) (by decide) (fun d hd=>by cases hd;decide) ?_
      intro f w' p hG hup hdn hfr hp K hK
      have g202:f 202 = .int .i64 0:=hp 0 _ 202 rfl rfl (by kernel_rfl)
      clear hfr hp hup hdn
      go_simp
      exact hK _ _ rfl hG
     ·refine StepPT.reg (fun f hp=>wanted_none rfl) (by decide) (fun d hd=>by cases hd;decide) ?_
      intro f w' p hG hup hdn hfr hp K hK
      have g203:f 203 = .bool false:=hp 1 _ 203 rfl rfl (by kernel_rfl)
      clear hfr hp hup hdn
      go_simp
      exact hK _ _ rfl hG
     ·refine StepPT.reg (fun f hp=>wanted_on 2 204 false rfl rfl rfl (by decide) (hp 2 _ 204 rfl rfl (by kernel_rfl))) (by decide) (fun d hd=>by cases hd;decide) ?_
      intro f w' p hG hup hdn hfr hp K hK
      have g27:f 27 = .int .i64 (pt7:Int):=hfr 27 (by kernel_rfl)
      clear hfr hp hup hdn
      go_simp
      exact hK _ _ rfl hG
     ·refine StepPT.reg (fun f hp=>wanted_on 2 204 false rfl rfl rfl (by decide) (hp 2 _ 204 rfl rfl (by kernel_rfl))) (by decide) (fun d hd=>by cases hd;decide) ?_
      intro f w' p hG hup hdn hfr hp K hK
      have g13:f 13 = .pointer (some ⟨rb+7,0,none⟩):=hfr 13 (by kernel_rfl)
      have c7:=(HJ8.out.new hG).cells.2.2.2.2.2.1
      clear hfr hp hup hdn
      go_simp
      exact hK _ _ rfl hG
     ·refine StepPT.reg (fun f hp=>wanted_on 2 204 false rfl rfl rfl (by decide) (hp 2 _ 204 rfl rfl (by kernel_rfl))) (by decide) (fun d hd=>by cases hd;decide) ?_
      intro f w' p hG hup hdn hfr hp K hK
      have g205:f 205 = .int .i64 (pt7:Int):=hp 3 _ 205 rfl rfl (by kernel_rfl)
      have g206:f 206 = .int .i64 (pt7:Int):=hp 4 _ 206 rfl rfl (by kernel_rfl)
      clear hfr hp hup hdn
      go_simp
      exact hK _ _ (by simp) hG
     ·refine StepPT.reg (fun f hp=>wanted_none rfl) (by decide) (fun d hd=>by cases hd;decide) ?_
      intro f w' p hG hup hdn hfr hp K hK
      have g204:f 204 = .bool false:=hp 2 _ 204 rfl rfl (by kernel_rfl)
      have g207:f 207 = .bool false:=hp 5 _ 207 rfl rfl (by kernel_rfl)
      clear hfr hp hup hdn
      go_simp
      exact hK _ _ rfl hG
     ·refine StepPT.reg (fun f hp=>wanted_none rfl) (by decide) (fun d hd=>by cases hd;decide) ?_
      intro f w' p hG hup hdn hfr hp K hK
      have g208:f 208 = .bool false:=hp 6 _ 208 rfl rfl (by kernel_rfl)
      clear hfr hp hup hdn
      go_simp
      exact hK _ _ rfl hG
     ·refine StepPT.reg (fun f hp=>wanted_on 7 209 false rfl rfl rfl (by decide) (hp 7 _ 209 rfl rfl (by kernel_rfl))) (by decide) (fun d hd=>by cases hd;decide) ?_
      intro f w' p hG hup hdn hfr hp K hK
      have g5:f 5 = .pointer (some ⟨rb,0,none⟩):=hfr 5 (by kernel_rfl)
      clear hfr hp hup hdn
      go_simp
      exact hK _ _ rfl hG
     ·refine StepPT.reg (fun f hp=>wanted_on 7 209 false rfl rfl rfl (by decide) (hp 7 _ 209 rfl rfl (by kernel_rfl))) (by decide) (fun d hd=>by cases hd;decide) ?_
      intro f w' p hG hup hdn hfr hp K hK
      have g210:f 210 = .pointer (some ⟨rb,3,none⟩):=hp 8 _ 210 rfl rfl (by kernel_rfl)
      have x3:=(HJ8.out.new hG).pa.p.rigs.2.2.2
      dsimp only at x3
      clear hfr hp hup hdn
      go_simp
      exact hK _ _ rfl hG
     ·refine StepPT.wr 0 (fun f hp=>wanted_on 7 209 false rfl rfl rfl (by decide) (hp 7 _ 209 rfl rfl (by kernel_rfl))) (by decide) rfl (fun d hd=>by cases hd;decide) (fun j hj=>by omega) ?_
      intro f w' hG hfr hp K hK
      have g211:f 211 = .pointer (some ⟨eb,0,none⟩):=hp 9 _ 211 rfl rfl (by kernel_rfl)
      clear hfr hp
      go_simp
      refine (HLF.out _ hG).mono ?_
      rintro e wa hX
      obtain ⟨rfl,hcx⟩:=hX
      exact hK _ _ (fun _=>rfl) (hG.trans hcx (fun _ _ x=>x))
     ·refine StepPT.reg (fun f hp=>wanted_on 7 209 false rfl rfl rfl (by decide) (hp 7 _ 209 rfl rfl (by kernel_rfl))) (by decide) (fun d hd=>by cases hd;decide) ?_
      intro f w' p hG hup hdn hfr hp K hK
      have g11:f 11 = .int .i64 (sy7:Int):=hfr 11 (by kernel_rfl)
      clear hfr hp hup hdn
      go_simp
      exact hK _ _ rfl hG
     ·refine StepPT.reg (fun f hp=>wanted_on 7 209 false rfl rfl rfl (by decide) (hp 7 _ 209 rfl rfl (by kernel_rfl))) (by decide) (fun d hd=>by cases hd;decide) ?_
      intro f w' p hG hup hdn hfr hp K hK
      have g12:f 12 = .pointer (some ⟨rb+6,0,none⟩):=hfr 12 (by kernel_rfl)
      have c6:=(HJ8.out.new hG).cells.2.2.2.2.1
      clear hfr hp hup hdn
      go_simp
      exact hK _ _ rfl hG
     ·refine StepPT.reg (fun f hp=>wanted_on 7 209 false rfl rfl rfl (by decide) (hp 7 _ 209 rfl rfl (by kernel_rfl))) (by decide) (fun d hd=>by cases hd;decide) ?_
      intro f w' p hG hup hdn hfr hp K hK
      have g213:f 213 = .int .i64 (sy7:Int):=hp 11 _ 213 rfl rfl (by kernel_rfl)
      have g214:f 214 = .int .i64 (sn7:Int):=hp 12 _ 214 rfl rfl (by kernel_rfl)
      clear hfr hp hup hdn
      go_simp
      exact hK _ _ (by first|rfl|rw [ew]|simp [ew]) hG
     ·refine StepPT.reg (fun f hp=>wanted_on 7 209 false rfl rfl rfl (by decide) (hp 7 _ 209 rfl rfl (by kernel_rfl))) (by decide) (fun d hd=>by cases hd;decide) ?_
      intro f w' p hG hup hdn hfr hp K hK
      have g212:f 212 = .int .i64 (lf:Int):=hp 10 _ 212 rfl rfl (by kernel_rfl)
      have g215:f 215 = .int .i64 (lf:Int):=hp 13 _ 215 rfl rfl (by kernel_rfl)
      clear hfr hp hup hdn
      go_simp
      exact hK _ _ (by simp) hG
     ·refine StepPT.reg (fun f hp=>wanted_none rfl) (by decide) (fun d hd=>by cases hd;decide) ?_
      intro f w' p hG hup hdn hfr hp K hK
      have g209:f 209 = .bool false:=hp 7 _ 209 rfl rfl (by kernel_rfl)
      have g216:f 216 = .bool false:=hp 14 _ 216 rfl rfl (by kernel_rfl)
      clear hfr hp hup hdn
      go_simp
      exact hK _ _ rfl hG
    ·intro f w9 hG hfr hR
     have e217:f 217 = .bool false:=hR 15 _ 217 rfl rfl
     have HP9:Hid (PutE w2 w9 ⟨eb,tb,sb,mb,lb⟩ rb (k+1) sy7):=Lib.hid ⟨z7,y7,d7,r7,sn7,pt7,HJ8.out.new hG⟩
     have HS91:SlOk w9 u91:=H917.out.keep (Nat.le_trans HSZ8.out hG.size)
     have HS97:SlOk w9 u97:=H977.out.keep (Nat.le_trans HSZ8.out hG.size)
     have HS9:=Lib.hid (And.intro HS91 HS97)
     have hback:=fr_back (n:=231) (f:=f) (D:=[202,203,204,205,206,207,208,209,210,211,212,213,214,215,216,217]) rfl (by kernel_rfl) hfr
     rw [hback]
     simp only [mixL,List.elem_eq_contains,List.contains_cons,List.contains_nil,Nat.reduceBEq,Nat.reduceAdd,Bool.or_false,Bool.or_true,Bool.false_or,Bool.true_or,cond_false,cond_true,Bool.or_self,Nat.zero_add]
     rw [e217]
     clear hback hfr hG hR HS91 HS97
     go_wp2_with fail
     exact ⟨⟨k+1,sy7,by omega,by go_num,rfl,HS9.out.1,HS9.out.2,HP9⟩,by simp [intOf];omega⟩
  ·skip
   obtain ⟨z0,y0,dn0,rs0,sn0,pt0,hJ0⟩:=HX.out
   have HJ0:=Lib.hid hJ0
   have EF:Hid (∀ p v W,EndG w2 wr ⟨eb,tb,sb,mb,lb⟩ z0 rb y0 dn0 rs0 k p v W→W.cell? ⟨rb,3,none⟩=some (.pointer (some ⟨eb,0,none⟩))∧W.cell? ⟨rb+8,0,none⟩=some (y0.rv 11)∧Chg (fun _=>False) w2 W):=Lib.hid (fun p v W hG=>hJ0.endf p v W hG)
   clear hJ0 HX
   go_upto_region 59 with fail
   refine region_pt (n:=231) 15 [2,4,8] rfl rfl (by kernel_rfl) (by kernel_rfl) (by kernel_rfl) (fun i v=>match i with|0=>v = .pointer (some ⟨rb,3,none⟩)|1=>v = .pointer (some ⟨eb,0,none⟩)|3=>v=y0.rv 11|4=>v = .bool true|5=>v = .bool true|6=>v = .pointer (some ⟨rb,3,none⟩)|7=>v = .pointer (some ⟨eb,0,none⟩)|8=>(fun v=>∃ a c,v = .slice a 0 c) v|9=>v = .int .i64 0|10=>v = .bool true|11=>v = .bool true|12=>v = .bool true|_=>True)
    (fun p f w'=>EndG w2 wr ⟨eb,tb,sb,mb,lb⟩ z0 rb y0 dn0 rs0 k p (f 221) w') ?_ ?_ ?_
   ·exact (Chg.refl _ _).drew
   ·simp only [AllAt]
    refine ⟨?_,?_,?_,?_,?_,?_,?_,?_,?_,?_,?_,?_,?_,trivial⟩
    ·refine StepPT.reg (fun f hp=>wanted_none rfl) (by decide) (fun d hd=>by cases hd;decide) ?_
     intro f w' p hG hup hdn hfr hp K hK
     have g5:f 5 = .pointer (some ⟨rb,0,none⟩):=hfr 5 (by kernel_rfl)
     clear hfr hp hup hdn
     go_simp
     exact hK _ _ rfl hG
    ·refine StepPT.reg (fun f hp=>wanted_none rfl) (by decide) (fun d hd=>by cases hd;decide) ?_
     intro f w' p hG hup hdn hfr hp K hK
     have g219:f 219 = .pointer (some ⟨rb,3,none⟩):=hp 0 _ 219 rfl rfl (by kernel_rfl)
     have x3:=(EF.out _ _ _ hG).1
     clear hfr hp hup hdn
     go_simp
     exact hK _ _ rfl hG
    ·refine StepPT.wr 0 (fun f hp=>wanted_none rfl) (by decide) rfl (fun d hd=>by cases hd;decide) (fun j hj=>by omega) ?_
     intro f w' hG hfr hp K hK
     have g220:f 220 = .pointer (some ⟨eb,0,none⟩):=hp 1 _ 220 rfl rfl (by kernel_rfl)
     clear hfr hp
     go_simp
     refine (HJ0.out.late1 hG).mono ?_
     rintro e wa hX
     obtain ⟨v,rfl,hG2⟩:=hX
     exact hK _ _ (fun _=>trivial) hG2
    ·refine StepPT.reg (fun f hp=>wanted_none rfl) (by decide) (fun d hd=>by cases hd;decide) ?_
     intro f w' p hG hup hdn hfr hp K hK
     have g14:f 14 = .pointer (some ⟨rb+8,0,none⟩):=hfr 14 (by kernel_rfl)
     have x8:=(EF.out _ _ _ hG).2.1
     clear hfr hp hup hdn
     go_simp
     exact hK _ _ rfl hG
    ·refine StepPT.wr 1 (fun f hp=>wanted_none rfl) (by decide) rfl (fun d hd=>by cases hd;decide) (fun j hj=>by (obtain rfl:j=0:=(by omega));kernel_rfl) ?_
     intro f w' hG hfr hp K hK
     have g222:f 222=y0.rv 11:=hp 3 _ 222 rfl rfl (by kernel_rfl)
     clear hfr hp
     go_simp
     refine (HJ0.out.ints2 (by omega) hG).mono ?_
     rintro e wa hX
     obtain ⟨rfl,hG2⟩:=hX
     exact hK _ _ (fun _=>rfl) (hG2 _)
    ·refine StepPT.reg (fun f hp=>wanted_none rfl) (by decide) (fun d hd=>by cases hd;decide) ?_
     intro f w' p hG hup hdn hfr hp K hK
     have g223:f 223 = .bool true:=hp 4 _ 223 rfl rfl (by kernel_rfl)
     clear hfr hp hup hdn
     go_simp
     exact hK _ _ rfl hG
    ·refine StepPT.reg (fun f hp=>wanted_on 5 224 true rfl rfl rfl (by decide) (hp 5 _ 224 rfl rfl (by kernel_rfl))) (by decide) (fun d hd=>by cases hd;decide) ?_
     intro f w' p hG hup hdn hfr hp K hK
     have g5:f 5 = .pointer (some ⟨rb,0,none⟩):=hfr 5 (by kernel_rfl)
     clear hfr hp hup hdn
     go_simp
     exact hK _ _ rfl hG
    ·refine StepPT.reg (fun f hp=>wanted_on 5 224 true rfl rfl rfl (by decide) (hp 5 _ 224 rfl rfl (by kernel_rfl))) (by decide) (fun d hd=>by cases hd;decide) ?_
     intro f w' p hG hup hdn hfr hp K hK
     have g225:f 225 = .pointer (some ⟨rb,3,none⟩):=hp 6 _ 225 rfl rfl (by kernel_rfl)
     have x3:=(EF.out _ _ _ hG).1
     clear hfr hp hup hdn
     go_simp
     exact hK _ _ rfl hG
    ·refine StepPT.wr 2 (fun f hp=>wanted_on 5 224 true rfl rfl rfl (by decide) (hp 5 _ 224 rfl rfl (by kernel_rfl))) (by decide) rfl (fun d hd=>by cases hd;decide) (fun j hj=>by rcases (by omega:j=0∨j=1) with rfl|rfl<;>kernel_rfl) ?_
     intro f w' hG hfr hp K hK
     have g226:f 226 = .pointer (some ⟨eb,0,none⟩):=hp 7 _ 226 rfl rfl (by kernel_rfl)
     clear hfr hp
     go_simp
     refine (HJ0.out.late3 hG).mono ?_
     rintro e wa hX
     obtain ⟨a7,c7,rfl,hG2⟩:=hX
     exact hK _ _ (fun _=>⟨_,_,rfl⟩) (hG2 _)
    ·refine StepPT.reg (fun f hp=>wanted_on 5 224 true rfl rfl rfl (by decide) (hp 5 _ 224 rfl rfl (by kernel_rfl))) (by decide) (fun d hd=>by cases hd;decide) ?_
     intro f w' p hG hup hdn hfr hp K hK
     have r227:(fun v=>∃ a c,v = .slice a 0 c) (f 227):=hp 8 _ 227 rfl rfl (by kernel_rfl)
     obtain ⟨a7,c7,h227⟩:=r227
     clear hfr hp hup hdn
     go_simp
     exact hK _ _ rfl hG
    ·refine StepPT.reg (fun f hp=>wanted_on 5 224 true rfl rfl rfl (by decide) (hp 5 _ 224 rfl rfl (by kernel_rfl))) (by decide) (fun d hd=>by cases hd;decide) ?_
     intro f w' p hG hup hdn hfr hp K hK
     have g228:f 228 = .int .i64 0:=hp 9 _ 228 rfl rfl (by kernel_rfl)
     clear hfr hp hup hdn
     go_simp
     exact hK _ _ rfl hG
    ·refine StepPT.reg (fun f hp=>wanted_none rfl) (by decide) (fun d hd=>by cases hd;decide) ?_
     intro f w' p hG hup hdn hfr hp K hK
     have g224:f 224 = .bool true:=hp 5 _ 224 rfl rfl (by kernel_rfl)
     have g229:f 229 = .bool true:=hp 10 _ 229 rfl rfl (by kernel_rfl)
     clear hfr hp hup hdn
     go_simp
     exact hK _ _ rfl hG
    ·refine StepPT.reg (fun f hp=>wanted_none rfl) (by decide) (fun d hd=>by cases hd;decide) ?_
     intro f w' p hG hup hdn hfr hp K hK
     have g230:f 230 = .bool true:=hp 11 _ 230 rfl rfl (by kernel_rfl)
     clear hfr hp hup hdn
     go_simp
     exact hK _ _ rfl hG
   ·intro f w9 hG hfr hR
    have g4:f 4 = .bool true:=hR 12 _ 4 rfl rfl
    have hlow:=(EF.out _ _ _ hG).2.2
    clear hfr hR hG
    simp only [Fr]
    go_wp2_with fail
    go_ret
    exact ⟨by show Ending.returned (f 4)=_;rw [g4],chg_below (HC2.out.trans hlow (fun _ _ e=>e))⟩
end Go.Proofs.YtldkapjeheiiaaaGreatDoor
