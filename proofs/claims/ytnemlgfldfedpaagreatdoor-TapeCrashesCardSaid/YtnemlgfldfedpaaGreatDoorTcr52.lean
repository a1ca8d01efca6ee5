/- A part. -/
import Derived.Test.YtnemlgfldfedpaaGreatDoorTcr51
set_option linter.unusedVariables false
set_option linter.unusedSimpArgs false
namespace Go.Proofs.YtnemlgfldfedpaaGreatDoor
open Go.RowKit Go.Deep
attribute [local go_sem] fr_opt
structure Args (W:World) (IB MB:Nat) (cI cM:Array Value):Prop where
 i:W.heap[IB]? = some (.cells cI 27 (0,0))
 m:W.heap[MB]? = some (.cells cM 30 (0,0))
theorem Args.new {W W':World} {IB MB:Nat} {cI cM:Array Value} (h:Args W IB MB cI cM) (hc:Chg (fun _=>False) W W'):Args W' IB MB cI cM:=⟨hc.heap h.i (fun x=>x),hc.heap h.m (fun x=>x)⟩
theorem Args.ci {W:World} {IB MB:Nat} {cI cM:Array Value} (h:Args W IB MB cI cM) (j:Nat):W.cell? ⟨IB,j,none⟩=cI[j]?:=by
 unfold World.cell?;simp [h.i]
theorem Args.cm {W:World} {IB MB:Nat} {cI cM:Array Value} (h:Args W IB MB cI cM) (j:Nat):W.cell? ⟨MB,j,none⟩=cM[j]?:=by
 unfold World.cell?;simp [h.m]
theorem tqwf {n:Int} (h:(Lit.int .i64 n).wf=true):n≤9223372036854775807:=by
 have h2:IntKind.i64.min≤n∧n≤IntKind.i64.max:=by simpa [Lit.wf] using h
 have h3:IntKind.i64.max=9223372036854775807:=rfl
 omega
theorem tqwu8 {n:Int} (h:(Lit.int .u8 n).wf=true):0≤n∧n≤255:=by
 have h2:IntKind.u8.min≤n∧n≤IntKind.u8.max:=by simpa [Lit.wf] using h
 have h3:IntKind.u8.max=255:=rfl
 have h4:IntKind.u8.min=0:=rfl
 omega
set_option maxHeartbeats 16000000 in
set_option maxRecDepth 100000 in
theorem walkF_TapeCrashes (vL:Value) (ms:List (MsgM×Value)) (sy fu:Int) (vK:Value) (bs:List Bool) (lack:Int) (M:MsgM) (vk:Value) (w:World) (ht:Tab10 w) (hv:MsgsAt w vL ms) (hl:ms.length≤maxLen) (hs:∀ p∈ms,Sized w p∧CapOk p.2) (hsy:(Lit.int .u8 sy).wf=true) (hfu:(Lit.int .i64 fu).wf=true) (hvb:BoolsOf w vK bs) (hbl:bs.length≤maxLen) (hsm:Sized w (M,vk)) (hcm:CapOk vk) :
 Calls Tryz.prog 3 #[.agg #[vL,.int .u8 sy,.int .i64 fu,vK,.int .i64 lack],M.val vk] w fun e w'=>e = .returned (.bool true)∧Below w.heap.size w w':=by
 unfold maxLen at hl hbl
 obtain ⟨aL,cL,rfl⟩:=hv.form
 obtain ⟨aK,cK,hvK⟩:∃ a c,vK = .slice a bs.length c:=by obtain ⟨a',c',e,_⟩:=hvb;exact ⟨a',c',e⟩
 subst hvK
 obtain ⟨m1,m2,m3,m4,m5,m6,m7,m8,m9,m10⟩:=M
 obtain ⟨ka,kc,hva⟩:=hsm.strs.form
 dsimp only at hva
 obtain ⟨kl,hkl⟩:∃ l,l=m10.length:=⟨_,rfl⟩
 rw [←hkl] at hva
 subst hva
 obtain ⟨N,hN⟩:∃ n,n=ms.length:=⟨_,rfl⟩
 obtain ⟨KN,hKN⟩:∃ n,n=bs.length:=⟨_,rfl⟩
 rw [←hN] at hv hl ⊢
 rw [←hKN] at hvb hbl ⊢
 obtain ⟨sy0,sy1⟩:=tqwu8 hsy
 have hfu2:=tqwf hfu
 obtain ⟨CI,hCI⟩:∃ c:Array Value,c = #[.slice aL N cL,.int .u8 sy,.int .i64 fu,.slice aK KN cK,.int .i64 lack]:=⟨_,rfl⟩
 obtain ⟨CM,hCM⟩:∃ c:Array Value,c = #[.int .i64 m1,.int .i64 m2,.int .i64 m3,.int .i64 m4,.int .i64 m5,.int .i64 m6,.string m7,.string m8,.string m9,.slice ka kl kc]:=⟨_,rfl⟩
 obtain ⟨IB,hIB⟩:∃ b,b=w.heap.size:=⟨_,rfl⟩
 obtain ⟨MB,hMB⟩:∃ b,b=w.heap.size+1:=⟨_,rfl⟩
 obtain ⟨W0,hW0⟩:∃ W,W=(w.alloc (.cells #[.slice aL N cL,.int .u8 sy,.int .i64 fu,.slice aK KN cK,.int .i64 lack] 27)).alloc (.cells #[.int .i64 m1,.int .i64 m2,.int .i64 m3,.int .i64 m4,.int .i64 m5,.int .i64 m6,.string m7,.string m8,.string m9,.slice ka kl kc] 30):=⟨_,rfl⟩
 have hb0:Below w.heap.size w W0:=hW0▸((Below.refl _ _).alloc (Nat.le_refl _) _).alloc (by rw [World.size_alloc];omega) _
 have hA0:Args W0 IB MB CI CM:=by
  refine ⟨?_,?_⟩
  ·rw [hW0,hCI,hIB]
   exact Below.heap_alloc _ _ _ (by simp) |>.trans (heap_alloc_new w _)
  ·rw [hW0,hCM,hMB]
   have:=heap_alloc_new (w.alloc (.cells #[.slice aL N cL,.int .u8 sy,.int .i64 fu,.slice aK KN cK,.int .i64 lack] 27)) (.cells #[.int .i64 m1,.int .i64 m2,.int .i64 m3,.int .i64 m4,.int .i64 m5,.int .i64 m6,.string m7,.string m8,.string m9,.slice ka kl kc] 30 (0,0))
   rw [World.size_alloc] at this
   exact this
 have hc0:Chg (fun _=>False) w W0:=Chg.of_below hb0
 have HB0:=Lib.hid hb0
 have HA0:=Lib.hid hA0
 have HTB:=Lib.hid (tab_chg ht hc0)
 have HV:=Lib.hid (hv.keep hc0 (fun _ _ e=>e))
 have HS:Hid (∀ p∈ms,Sized W0 p∧CapOk p.2):=Lib.hid (fun p hp=>⟨(hs p hp).1.below hb0,(hs p hp).2⟩)
 have HVB:Hid (∀ W,Chg (fun _=>False) W0 W→BoolsOf W (.slice aK KN cK) bs):=Lib.hid (fun W hW=>by
  obtain ⟨a',c',e',hx⟩:=hvb
  refine ⟨a',c',e',hx.imp (fun h=>h) ?_⟩
  rintro ⟨b,o,e2,h⟩
  refine ⟨b,o,e2,fun i hi=>(hc0.trans hW (fun _ _ e=>e)).cell (h i hi) (fun x=>x)⟩)
 have HSM:Hid (Sized W0 (⟨m1,m2,m3,m4,m5,m6,m7,m8,m9,m10⟩,.slice ka kl kc)):=Lib.hid (hsm.below hb0)
 have HCM:=Lib.hid hcm
 have HKL:=Lib.hid hkl
 have HN:=Lib.hid hN
 have HKN:=Lib.hid hKN
 have HW0:=Lib.hid hW0
 have HCI:=Lib.hid hCI
 have HCMM:=Lib.hid hCM
 have HIB:=Lib.hid hIB
 have HMB:=Lib.hid hMB
 have HFIN:Hid (∀ W,Chg (fun _=>False) W0 W→Below w.heap.size w W):=Lib.hid (fun W hW=>chg_below (hc0.trans hW (fun _ _ e=>e)))
 clear ht hv hs hsy hfu hvb hsm hcm hkl hN hKN hCI hCM hIB hMB hW0 hb0 hA0 hc0
 unfold MsgM.val MsgM.cells
 dsimp only
 go_enter Tryz.func3,Tryz.ntmps3
 go_upto_region 1 with fail
 rw [←HW0.out,←HMB.out,←HIB.out]
 go_wp2_with fail
 refine (tawake_any W0 HTB.out).mono ?_
 rintro e w1 ⟨rfl,hc1⟩
 have HC1:=Lib.hid hc1
 have hca:=(HA0.out.new hc1).ci
 have hcb:=(HA0.out.new hc1).cm
 rw [HCI.out] at hca
 rw [HCMM.out] at hcb
 have a0:w1.cell? ⟨IB,0,none⟩=some (.slice aL N cL):=hca 0
 have a3:w1.cell? ⟨IB,3,none⟩=some (.slice aK KN cK):=hca 3
 clear hc1 hca hcb
 by_cases h60:60<N
 ·have h60':(60:Int)<(N:Int):=by omega
  have d60:decide ((60:Int)<(N:Int))=true:=decide_eq_true h60'
  clear h60
  go_wp2_with fail
  go_ret
  exact ⟨rfl,HFIN.out _ HC1.out⟩
 have h60':¬ (60:Int)<(N:Int):=by omega
 have d60:decide ((60:Int)<(N:Int))=false:=decide_eq_false h60'
 by_cases h200:200<KN
 ·have h200':(200:Int)<(KN:Int):=by omega
  have d200:decide ((200:Int)<(KN:Int))=true:=decide_eq_true h200'
  clear h200
  go_wp2_with fail
  go_ret
  exact ⟨rfl,HFIN.out _ HC1.out⟩
 have h200':¬ (200:Int)<(KN:Int):=by omega
 have d200:decide ((200:Int)<(KN:Int))=false:=decide_eq_false h200'
 have hN60:N≤60:=by omega
 have hKN200:KN≤200:=by omega
 clear h60 h200
 go_wp2_with fail
 refine (great_msgs _ ms w1 (HV.out.keep HC1.out (fun _ _ e=>e)) (by rw [←HN.out];omega) (fun p hp=>(HS.out p hp).1.below (chg_below HC1.out))).mono ?_
 rintro e w2 ⟨z,rfl,hf,hb2⟩
 have HC2:=Lib.hid (HC1.out.trans (below_chg hb2) (fun _ _ e=>e))
 have HF:=Lib.hid hf
 have hcb:=(HA0.out.new HC2.out).cm
 rw [HCMM.out] at hcb
 have g0:w2.cell? ⟨MB,0,none⟩=some (.int .i64 m1):=hcb 0
 have g1:w2.cell? ⟨MB,1,none⟩=some (.int .i64 m2):=hcb 1
 have g2:w2.cell? ⟨MB,2,none⟩=some (.int .i64 m3):=hcb 2
 have g3:w2.cell? ⟨MB,3,none⟩=some (.int .i64 m4):=hcb 3
 have g4:w2.cell? ⟨MB,4,none⟩=some (.int .i64 m5):=hcb 4
 have g5:w2.cell? ⟨MB,5,none⟩=some (.int .i64 m6):=hcb 5
 have g6:w2.cell? ⟨MB,6,none⟩=some (.string m7):=hcb 6
 have g7:w2.cell? ⟨MB,7,none⟩=some (.string m8):=hcb 7
 have g8:w2.cell? ⟨MB,8,none⟩=some (.string m9):=hcb 8
 have g9:w2.cell? ⟨MB,9,none⟩=some (.slice ka kl kc):=hcb 9
 clear hb2 hf a0 a3 hcb
 cases z
 case true=>
  go_wp2_with fail
  go_ret
  exact ⟨rfl,HFIN.out _ HC2.out⟩
 have HFA:=Lib.hid (HF.out rfl)
 clear HF
 obtain ⟨W3,hW3⟩:∃ W,W=w2.alloc (.cells #[.int .i64 m1,.int .i64 m2,.int .i64 m3,.int .i64 m4,.int .i64 m5,.int .i64 m6,.string m7,.string m8,.string m9,.slice ka kl kc] 30):=⟨_,rfl⟩
 have hc3:Chg (fun _=>False) w2 W3:=hW3▸Chg.alloc _ (Chg.refl _ _) _
 have hGO:=great_o [(⟨m1,m2,m3,m4,m5,m6,m7,m8,m9,m10⟩,.slice ka kl kc)] w2.heap.size 0 1 1 W3 (by rw [hW3,World.size_alloc];omega) rfl (by decide) (fun p hp=>by
  rw [List.mem_singleton.1 hp]
  exact HSM.out.below (chg_below (HC2.out.trans hc3 (fun _ _ e=>e)))) (fun k p hp i hi=>by
  cases k with
  | succ k=>cases hp
  | zero=>
   have hp:=Option.some.inj hp
   subst hp
   have:W3.heap[w2.heap.size]? = some (.cells #[.int .i64 m1,.int .i64 m2,.int .i64 m3,.int .i64 m4,.int .i64 m5,.int .i64 m6,.string m7,.string m8,.string m9,.slice ka kl kc] 30 (0,0)):=by rw [hW3];exact heap_alloc_new w2 _
   unfold World.cell?
   simp [this,MsgM.cells])
 have HGO:=Lib.hid hGO
 have HW3:=Lib.hid hW3
 have HC3:=Lib.hid (HC2.out.trans hc3 (fun _ _ e=>e))
 clear hW3 hc3 hGO
 go_wp2_with (go_at_call 5;rw [←HW3.out];refine HGO.out.mono ?_)
 rintro e w3 ⟨z,rfl,hf,hb2⟩
 have HC4:=Lib.hid (HC3.out.trans (below_chg hb2) (fun _ _ e=>e))
 have HF:=Lib.hid hf
 clear hb2 hf
 cases z
 case true=>
  go_wp2_with fail
  go_ret
  exact ⟨rfl,HFIN.out _ HC4.out⟩
 have HFM:=Lib.hid (HF.out rfl)
 clear HF HGO HW3 HC3
 clear g0 g1 g2 g3 g4 g5 g6 g7 g8 g9
 have HN2:=Lib.hid (new_any 1048576 w3)
 go_wp2_with fail
 refine HN2.out.mono ?_
 rintro e w4 ⟨rfl,hd0,hb0⟩
 obtain ⟨g,hg⟩:∃ g:Gh,g=⟨w3.heap.size,none,[]⟩:=⟨_,rfl⟩
 obtain ⟨d,hd⟩:∃ d,d=w3.heap.size:=⟨_,rfl⟩
 have hgd:g.d=d:=by rw [hg,hd]
 have hdg:DiskG W0 w4 d g (newSt 1048576):=⟨by rw [hg];exact hd0,hgd,HC4.out.trans (below_chg hb0) (fun _ _ e=>e),fun k hk=>by rw [hg] at hk;simp [Gh.fp] at hk;have:=HC4.out.size;omega⟩
 have hO:=topen_laid_w hdg HTB.out (l:=[]) (newC tH 1024 1048576 (by decide) (by decide) (by decide)) (by decide) rfl trivial (by decide) (by decide)
 rw [←hd]
 have HO:=Lib.hid hO
 have HGD:=Lib.hid hgd
 clear hd0 hb0 hg hd hdg hgd hO HN2
 go_wp2_with fail
 refine HO.out.mono ?_
 intro e w5 hop
 obtain ⟨tb,t,g5,st5,m5',rfl,htp⟩:=tpj_first hop HGD.out
 obtain ⟨W6,hW6⟩:∃ W,W=w5.alloc (.cells #[.string ⟨#[]⟩,.int .i64 0,.slice none 0 0,.slice none 0 0] 42):=⟨_,rfl⟩
 obtain ⟨rb,hrb⟩:∃ b,b=w5.heap.size:=⟨_,rfl⟩
 have hc6:Chg (fun _=>False) w5 W6:=hW6▸Chg.alloc _ (Chg.refl _ _) _
 have hSJ:SJ false W0 W6 d 0 tb rb 0 0:=by
  have hrl:W0.heap.size≤rb:=by rw [hrb];exact htp.tg.row.chg.size
  refine ⟨t,g5,st5,m5',0,[],[],[],⟨#[]⟩,.slice none 0 0,[],.slice none 0 0,[],htp.new hc6,refj_first (by rw [hW6,hrb];exact heap_alloc_new w5 _) hrl,fun q hq=>?_,rfl,rfl⟩
  have hqr:q=rb:=by
   rcases hq with rfl|hq|hq
   ·rfl
   ·cases hq
   ·cases hq
  rw [hqr,hrb]
  exact ⟨fun x=>by have:=htp.tg.tape.lt _ x;omega,fun x=>by have:=htp.tg.row.row.lt;omega,fun x=>by have:=htp.tg.row.disk.lt _ x;omega⟩
 have HSJ0:=Lib.hid hSJ
 have HW6:=Lib.hid hW6
 have HRB:=Lib.hid hrb
 have h60m:(N:Int)≤60:=by omega
 have c6:=hSJ.chg
 have hca:=(HA0.out.new c6).ci
 rw [HCI.out] at hca
 have a0:W6.cell? ⟨IB,0,none⟩=some (.slice aL N cL):=hca 0
 clear hop htp hc6 hSJ hW6 hrb HO c6 hca
 go_upto_region 10 with fail
 rw [←HW6.out,←HRB.out]
 obtain ⟨S,hS,hmd⟩:∃ S:Nat,S≤N∧sy.tmod ((N:Int)+1)=(S:Int):=by
  have h1:sy.tmod ((N:Int)+1)=sy % ((N:Int)+1):=Int.tmod_eq_emod_of_nonneg sy0
  have h2:=Int.emod_nonneg sy (b:=(N:Int)+1) (by omega)
  have h3:=Int.emod_lt_of_pos sy (b:=(N:Int)+1) (by omega)
  exact ⟨(sy % ((N:Int)+1)).toNat,by omega,by omega⟩
 have hnz:((N:Int)+1 == 0)=false:=by simpa using (by omega:¬ (N:Int)+1=0)
 have hnz2:¬ (N:Int)+1=0:=by omega
 go_upto_block 0 with fail
 clear a0
 go_cut [9,10] (fun s mv wx=>∃ a b:Nat,s = .int .i64 (a:Int)∧mv = .int .i64 (b:Int)∧a≤60∧b≤60∧Hid (EJ W0 wx d rb a b))
 case first=>
  as_aux_lemma=>
   go_wp2_with fail
   go_loopw [9,10,66] (fun sv mv iv wr=>∃ (k a b:Nat) (ph:Bool),k≤N∧a≤b∧b≤k∧(ph=true→S<k)∧iv = .int .i64 (k:Int)∧sv = .int .i64 (a:Int)∧mv = .int .i64 (b:Int)∧Hid (SJ ph W0 wr d k tb rb a b)) (fun _ _ iv _=>N - (intOf iv).toNat)
   case atStart=>exact ⟨0,0,0,false,Nat.zero_le _,Nat.le_refl _,Nat.le_refl _,(fun h=>by cases h),rfl,rfl,rfl,HSJ0⟩
   case round=>
    obtain ⟨k,a,b,ph,hk,hab,hbk,hph,rfl,rfl,rfl,HI⟩:=hrel
    clear HSJ0 HW6 HRB
    by_cases hlt:k<N
    ·obtain ⟨p,hp⟩:∃ p,ms[k]? = some p:=⟨_,List.getElem?_eq_getElem (by rw [←HN.out];exact hlt)⟩
     have hpm:=List.mem_of_getElem? hp
     obtain ⟨M,vk⟩:=p
     have hcw:=HI.out.chg
     obtain ⟨a',cap',e',hx⟩:=HV.out.keep hcw (fun _ _ e=>e)
     rcases hx with hx|⟨b0,o0,rfl,hbl,hcell⟩
     ·rw [hx] at hp;cases hp
     have key:=hcell k _ hp
     have hsz:Sized W0 (M,vk):=(HS.out _ hpm).1
     have hcp:CapOk vk:=(HS.out _ hpm).2
     have hfn:Fine M:=HFA.out _ hpm
     obtain ⟨hea,hec⟩:aL=some ⟨b0,o0,none⟩∧cL=cap':=by injection e' with e1 e2 e3;exact ⟨e1,e3⟩
     subst hea
     clear e' hec hcell
     obtain ⟨n1,n2,n3,n4,n5,n6,n7,n8,n9,n10⟩:=M
     obtain ⟨na,nc,hva⟩:=hsz.strs.form
     dsimp only at hva
     obtain ⟨nl,hnl⟩:∃ l,l=n10.length:=⟨_,rfl⟩
     rw [←hnl] at hva
     subst hva
     have f0:wr.cell? ⟨b0,o0+k*10,none⟩=some (.int .i64 n1):=by first|(simp [MsgM.cells];done)|simpa [MsgM.cells] using key 0 (by decide)
     have f1:wr.cell? ⟨b0,o0+k*10+1,none⟩=some (.int .i64 n2):=by first|(simp [MsgM.cells];done)|simpa [MsgM.cells] using key 1 (by decide)
     have f2:wr.cell? ⟨b0,o0+k*10+1+1,none⟩=some (.int .i64 n3):=by first|(simp [MsgM.cells];done)|simpa [MsgM.cells] using key 2 (by decide)
     have f3:wr.cell? ⟨b0,o0+k*10+1+1+1,none⟩=some (.int .i64 n4):=by first|(simp [MsgM.cells];done)|simpa [MsgM.cells] using key 3 (by decide)
     have f4:wr.cell? ⟨b0,o0+k*10+1+1+1+1,none⟩=some (.int .i64 n5):=by first|(simp [MsgM.cells];done)|simpa [MsgM.cells] using key 4 (by decide)
     have f5:wr.cell? ⟨b0,o0+k*10+1+1+1+1+1,none⟩=some (.int .i64 n6):=by first|(simp [MsgM.cells];done)|simpa [MsgM.cells] using key 5 (by decide)
     have f6:wr.cell? ⟨b0,o0+k*10+1+1+1+1+1+1,none⟩=some (.string n7):=by first|(simp [MsgM.cells];done)|simpa [MsgM.cells] using key 6 (by decide)
     have f7:wr.cell? ⟨b0,o0+k*10+1+1+1+1+1+1+1,none⟩=some (.string n8):=by first|(simp [MsgM.cells];done)|simpa [MsgM.cells] using key 7 (by decide)
     have f8:wr.cell? ⟨b0,o0+k*10+1+1+1+1+1+1+1+1,none⟩=some (.string n9):=by first|(simp [MsgM.cells];done)|simpa [MsgM.cells] using key 8 (by decide)
     have f9:wr.cell? ⟨b0,o0+k*10+1+1+1+1+1+1+1+1+1,none⟩=some (.slice na nl nc):=by first|(simp [MsgM.cells];done)|simpa [MsgM.cells] using key 9 (by decide)
     obtain ⟨W1,hW1⟩:∃ W,W=wr.alloc (.cells #[.int .i64 n1,.int .i64 n2,.int .i64 n3,.int .i64 n4,.int .i64 n5,.int .i64 n6,.string n7,.string n8,.string n9,.slice na nl nc] 30):=⟨_,rfl⟩
     obtain ⟨BX,hBX⟩:∃ b,b=wr.heap.size:=⟨_,rfl⟩
     have hX:SJB ph W0 W1 d k tb rb a b BX (.cells #[.int .i64 n1,.int .i64 n2,.int .i64 n3,.int .i64 n4,.int .i64 n5,.int .i64 n6,.string n7,.string n8,.string n9,.slice na nl nc] 30 (0,0)):=by rw [hW1,hBX];exact HI.out.box _ _
     have HX:=Lib.hid hX
     have HSW:Hid (Strs W0 0 (.slice na nl nc) n10):=Lib.hid hsz.strs
     have HCP:=Lib.hid hcp
     have HFN:Hid (Sound (⟨n1,n2,n3,n4,n5,n6,n7,n8,n9,n10⟩:MsgM)):=Lib.hid hfn.sound
     have HW1:=Lib.hid hW1
     have HBX:=Lib.hid hBX
     have hk60:k≤60:=by omega
     clear hX hp hpm hcw hbl key hsz hcp hfn hW1 hBX hnl
     go_upto_region 14 with fail
     rw [←HW1.out,←HBX.out]
     clear f0 f1 f2 f3 f4 f5 f6 f7 f8 f9 HW1 HBX
     have hca:=(HA0.out.new HX.out.sj.chg).ci
     rw [HCI.out] at hca
     have a0:W1.cell? ⟨IB,0,none⟩=some (.slice (some ⟨b0,o0,none⟩) N cL):=hca 0
     have a1:W1.cell? ⟨IB,1,none⟩=some (.int .u8 sy):=hca 1
     clear hca
     go_upto_if 80 with fail
     clear a0 a1
     go_cut [9] (fun sv wx=>∃ (a2:Nat) (ph2:Bool),sv = .int .i64 (a2:Int)∧a2≤b∧(ph2=true→S<k+1)∧Hid (SJB ph2 W0 wx d k tb rb a2 b BX (.cells #[.int .i64 n1,.int .i64 n2,.int .i64 n3,.int .i64 n4,.int .i64 n5,.int .i64 n6,.string n7,.string n8,.string n9,.slice na nl nc] 30 (0,0))))
     case first=>
      by_cases hkS:k=S
      ·obtain rfl:ph=false:=by
        cases ph
        ·rfl
        ·have:=hph rfl;omega
       have hd:((k:Int) == (S:Int))=true:=by simp [hkS]
       have HKS:Hid (k=S):=Lib.hid hkS
       clear hkS
       go_wp2_with fail
       refine (HX.out.sync (by omega)).mono ?_
       rintro e w8 ⟨rfl,hs8⟩
       have hca:=(HA0.out.new hs8.sj.chg).ci
       rw [HCI.out] at hca
       have a2:w8.cell? ⟨IB,2,none⟩=some (.int .i64 fu):=hca 2
       have HS8:=Lib.hid hs8
       clear hs8 hca
       go_wp2_with fail
       refine (HS8.out.fuse fu hfu2).mono ?_
       rintro e w9 ⟨rfl,hs9⟩
       have HS9:=Lib.hid hs9
       clear hs9 a2
       go_wp2_with fail
       go_meet
       case rel=>exact ⟨b,true,rfl,Nat.le_refl _,fun _=>by have:=HKS.out;omega,HS9⟩
      ·have hd:((k:Int) == (S:Int))=false:=by simp;omega
       go_wp2_with fail
       go_meet
       case rel=>exact ⟨a,ph,rfl,hab,fun h=>by have:=hph h;omega,HX⟩
     case rest=>
      obtain ⟨a2,ph2,rfl,ha2,hph2,HX2⟩:=hcut
      clear HX
      obtain ⟨cC,hC,hA⟩:=HX2.out.step hk60 (M:=⟨n1,n2,n3,n4,n5,n6,n7,n8,n9,n10⟩) (vk:=.slice na nl nc) (HSW.out.below (chg_below HX2.out.sj.chg) (Nat.le_refl _)) HCP.out HFN.out
      have hkx:=Box.cell (w:=wc) (b:=BX) (cs:=#[.int .i64 n1,.int .i64 n2,.int .i64 n3,.int .i64 n4,.int .i64 n5,.int .i64 n6,.string n7,.string n8,.string n9,.slice na nl nc]) HX2.out.at_
      have HC:=Lib.hid hC
      have HA:=Lib.hid hA
      clear hC hA
      unfold MsgM.val MsgM.cells at HC HA
      dsimp only at HC HA
      by_cases hc0:cC=0
      ·have hc1:((cC:Int) == 0)=true:=by simp [hc0]
       go_wp2_with fail
       refine HC.out.mono ?_
       rintro e w8 ⟨rfl,hb8⟩
       have HB8:=Lib.hid hb8
       clear hkx hb8
       go_wp2_with fail
       exact ⟨⟨k+1,a2,b,ph2,by omega,ha2,by omega,hph2,by go_num,rfl,rfl,Lib.hid (HX2.out.new (below_chg HB8.out)).sj.more⟩,by simp [intOf];omega⟩
      ·have hc1:((cC:Int) == 0)=false:=by simp [hc0]
       go_wp2_with fail
       refine HC.out.mono ?_
       rintro e w8 ⟨rfl,hb8⟩
       have HB8:=Lib.hid hb8
       have hkx:=Box.cell (w:=w8) (b:=BX) (cs:=#[.int .i64 n1,.int .i64 n2,.int .i64 n3,.int .i64 n4,.int .i64 n5,.int .i64 n6,.string n7,.string n8,.string n9,.slice na nl nc]) (HX2.out.new (below_chg hb8)).at_
       clear hb8
       go_wp2_with fail
       refine (HA.out hc0 w8 HB8.out).mono ?_
       rintro e w9 (⟨id,rfl,hu⟩|⟨rfl,hu⟩)
       ·have hkx:=Box.cell (w:=w9) (b:=BX) (cs:=#[.int .i64 n1,.int .i64 n2,.int .i64 n3,.int .i64 n4,.int .i64 n5,.int .i64 n6,.string n7,.string n8,.string n9,.slice na nl nc]) hu.1
        have HU:=Lib.hid (hu.app hk60 HSW.out HFN.out)
        clear hu
        unfold MsgM.val MsgM.cells at HU
        dsimp only at HU
        go_wp2_with fail
        refine HU.out.mono ?_
        rintro e w10 ⟨⟨id2,rfl⟩,hs⟩
        have HSJ:=Lib.hid hs
        clear hkx hs
        go_wp2_with fail
        exact ⟨⟨k+1,a2,b+1,ph2,by omega,by omega,by omega,hph2,by go_num,rfl,by go_num,HSJ⟩,by simp [intOf];omega⟩
       ·have hkx:=Box.cell (w:=w9) (b:=BX) (cs:=#[.int .i64 n1,.int .i64 n2,.int .i64 n3,.int .i64 n4,.int .i64 n5,.int .i64 n6,.string n7,.string n8,.string n9,.slice na nl nc]) hu.1
        have HU:=Lib.hid (hu.app hk60 HSW.out HFN.out)
        clear hu
        unfold MsgM.val MsgM.cells at HU
        dsimp only at HU
        go_wp2_with fail
        refine HU.out.mono ?_
        rintro e w10 ⟨⟨id2,rfl⟩,hs⟩
        have HEJ:=Lib.hid hs
        clear hkx hs
        go_wp2_with fail
        go_meet
        case rel=>exact ⟨a2,b+1,rfl,by go_num,by omega,by omega,HEJ⟩
    ·go_wp2_with fail
     go_meet
     case rel=>exact ⟨a,b,rfl,rfl,by omega,by omega,Lib.hid (HI.out.end_ (by omega))⟩
 case rest=>
  obtain ⟨a,b,rfl,rfl,ha60,hb60,HE⟩:=hcut
  clear HSJ0 HW6 HRB HV HS HFA hmd hnz hnz2 hS
  have hca:=(HA0.out.new HE.out.chg).ci
  rw [HCI.out] at hca
  have HCR:=Lib.hid (HE.out.crash (.slice aK KN cK) bs lack (HVB.out wc HE.out.chg) (by rw [←HKN.out];omega))
  go_wp2_with fail
  refine HCR.out.mono ?_
  rintro e wd ⟨rfl,hk⟩
  have HK:=Lib.hid hk.open_
  clear hk hca HCR
  go_wp2_with fail
  refine HK.out.mono ?_
  rintro e we ⟨tx,t,n,en,rfl,hx,hn1,hn2,hn3⟩
  have HX:=Lib.hid hx
  have HIX:=Lib.hid hx.ids
  have HL:=Lib.hid hn3
  have d1:decide ((n:Int)<(a:Int))=false:=decide_eq_false (by omega)
  have d2:decide ((b:Int)<(n:Int))=false:=decide_eq_false (by omega)
  have hn60:n≤60:=by omega
  clear hx hn3 HK HE
  go_wp2_with fail
  refine HIX.out.mono ?_
  rintro e wf ⟨v1,rfl,ho1,hb1⟩
  obtain ⟨p1,c1,hv1⟩:=ints_form (ints_of_row ho1)
  rw [HL.out] at hv1
  subst hv1
  have hx2:=HX.out.new (below_chg hb1)
  have HEN:=Lib.hid hx2.end_
  have HCT:=Lib.hid hx2.cut
  clear hx2 ho1 hb1 HIX HX HL
  go_wp2_with fail
  refine HEN.out.mono ?_
  rintro e wg ⟨rfl,rfl⟩
  go_wp2_with fail
  refine HCT.out.mono ?_
  rintro e wh ⟨rfl,bl,hy⟩
  obtain ⟨⟨B,vI,vL,hB,hBl⟩,hen,hen2,hch⟩:=hy.facts
  have HY:=Lib.hid hy.open_
  have hrb:∀ i,wh.cell? ⟨rb,i,none⟩=(#[.string B,.int .i64 0,vI,vL]:Array Value)[i]?:=fun i=>by unfold World.cell?;simp [hB]
  have HBL:=Lib.hid hBl
  have HEN2:=Lib.hid hen
  clear hy HCT HEN hB d1 d2 hBl hen hch
  go_upto_region 38 with fail
  go_cut [161] (fun v wx=>v = .bool false∧wx=wh)
  case first=>
   have e1:B.size≤en:=by rw [HBL.out];rcases HEN2.out with h|h<;>omega
   have e2:decide (en<B.size)=false:=decide_eq_false (by omega)
   rcases HEN2.out with h|⟨h,h1⟩
   ·have e3:en≤B.size:=by rw [HBL.out];omega
    have e4:decide (B.size<en)=false:=decide_eq_false (by omega)
    clear h
    go_wp2_with fail
    go_meet
    case rel=>exact ⟨by first|rfl|(simp [*];done)|(simp;omega),rfl⟩
   ·have e3:B.size<en:=by rw [HBL.out];omega
    have e4:decide (B.size<en)=true:=decide_eq_true e3
    have e5:(en:Int) % 1024=0:=by omega
    clear h h1
    go_wp2_with fail
    go_meet
    case rel=>exact ⟨by first|rfl|(simp [*];done)|(simp;omega),rfl⟩
  case rest=>
   obtain ⟨rfl,rfl⟩:=hcut
   clear hrb
   go_wp2_with fail
   refine HY.out.mono ?_
   rintro e wi ⟨ty,t2,rfl,hz⟩
   have HZ:=Lib.hid hz
   have HZE:=Lib.hid hz.end_
   have HZI:=Lib.hid hz.ids.1
   obtain ⟨_,hz2,_⟩:=hz.same
   have HL2:=Lib.hid hz2
   clear hz hz2 HY
   go_wp2_with fail
   refine HZE.out.mono ?_
   rintro e wj ⟨rfl,rfl⟩
   go_wp2_with fail
   refine HZI.out.mono ?_
   rintro e wj ⟨v2,rfl,ho2,hb2⟩
   have hc2:=below_chg hb2
   have hi2:=ints_of_row ho2
   have HZ2:=Lib.hid (HZ.out.new hc2)
   have HZI2:=Lib.hid (HZ.out.new hc2).ids.2
   have HI2:=Lib.hid hi2
   obtain ⟨p2,c2,hv2⟩:=ints_form hi2
   rw [HL2.out] at hv2
   subst hv2
   clear hb2 hc2 hi2 ho2 HZE HZI HZ
   go_wp2_with fail
   refine HZI2.out.mono ?_
   rintro e wk ⟨v3,rfl,ho3,hb3⟩
   have hc3:=below_chg hb3
   have hi3:=ints_of_row ho3
   obtain ⟨p3,c3,hv3⟩:=ints_form hi3
   have hIn:=ints_any (.slice p2 n c2) v3 t2.ids t2.ids wk (ints_new HI2.out hc3) hi3 (by rw [HL2.out];omega)
   rw [HL2.out] at hv3
   subst hv3
   have HIN:=Lib.hid hIn
   have HZ3:=Lib.hid (HZ2.out.new hc3)
   clear hb3 hc3 hi3 ho3 HZI2 HI2 HZ2 hIn
   go_wp2_with fail
   refine HIN.out.mono ?_
   rintro e wl ⟨rfl,q,hq⟩
   have hc4:Chg (fun _=>False) wk wl:=by rw [hq];exact (Chg.refl _ _).drewN q
   simp only [decide_true]
   have HZ4:=Lib.hid (HZ3.out.new hc4)
   have HWT:=Lib.hid (HZ3.out.new hc4).waits
   clear hq hc4 HIN HZ3
   go_wp2_with fail
   refine HWT.out.mono ?_
   rintro e wm ⟨rfl,hb5⟩
   have hc5:=below_chg hb5
   have HZ5:=Lib.hid (HZ4.out.new hc5)
   have HZI5:=Lib.hid (HZ4.out.new hc5).ids.2
   clear hb5 hc5 HZ4 HWT
   go_wp2_with fail
   refine HZI5.out.mono ?_
   rintro e wn ⟨v6,rfl,ho6,hb6⟩
   have hc6:=below_chg hb6
   have hi6:=ints_of_row ho6
   obtain ⟨p6,c6,hv6⟩:=ints_form hi6
   rw [HL2.out] at hv6
   subst hv6
   have HZ6:=Lib.hid (HZ5.out.new hc6)
   have HI6:=Lib.hid hi6
   clear hb6 hc6 hi6 ho6 HZI5 HZ5
   go_upto_block 2 with fail
   go_wp2_with fail
   go_loopw [191] (fun iv wr=>∃ k:Nat,k≤n∧iv = .int .i64 (k:Int)∧Hid (Chg (fun _=>False) wn wr)) (fun iv _=>n - (intOf iv).toNat)
   case atStart=>exact ⟨0,Nat.zero_le _,rfl,Lib.hid (Chg.refl _ _)⟩
   case round=>
    obtain ⟨k,hk,rfl,HC⟩:=hrel
    by_cases hlt:k<n
    ·as_aux_lemma=>
      have hir:=ints_new HI6.out HC.out
      obtain ⟨g6,o6,hp6,hc6⟩:=ints_cell hir (by rw [HL2.out];exact hlt)
      subst hp6
      have hzr:=HZ6.out.new HC.out
      obtain ⟨M,vk,B2,vI2,vL2,ids,Ms,hR,hT,hids,hMs,hst,hml⟩:=hzr.read k hlt
      obtain ⟨id,hid⟩:∃ i,i=t2.ids.getD k 0:=⟨_,rfl⟩
      rw [←hid] at hc6 hR
      obtain ⟨r1,r2,r3,r4,r5,r6,r7,r8,r9,r10⟩:=M
      obtain ⟨ql,hql⟩:∃ l,l=r10.length:=⟨_,rfl⟩
      obtain ⟨pa,pc,hvk⟩:=hst.form
      dsimp only at hvk hml hst
      rw [←hql] at hvk
      subst hvk
      have HQL:=Lib.hid hql
      have HRD:=Lib.hid hR
      have HT:=Lib.hid hT
      have HMS:=Lib.hid hMs
      have HST:=Lib.hid hst
      have HML:=Lib.hid hml
      have HID:Hid (ids.getD k 0=id∧ids.length=n):=Lib.hid ⟨by rw [hids,hid],by rw [hids];exact HL2.out⟩
      have HCH:=Lib.hid hzr.chg
      clear hir hzr hR hT hids hMs hst hml hid hql
      go_wp2_with fail
      refine HRD.out.mono ?_
      rintro e wA ⟨vq,rfl,hsA,hcpA,hbA⟩
      obtain ⟨qa,qc,hvq⟩:=hsA.form
      dsimp only at hvq hsA
      rw [←HQL.out] at hvq
      subst hvq
      unfold MsgM.val MsgM.cells
      dsimp only
      have HSA:=Lib.hid hsA
      obtain ⟨WB,hWB⟩:∃ W,W=wA.alloc (.cells #[.int .i64 r1,.int .i64 r2,.int .i64 r3,.int .i64 r4,.int .i64 r5,.int .i64 r6,.string r7,.string r8,.string r9,.slice qa ql qc] 30):=⟨_,rfl⟩
      obtain ⟨bm,hbm⟩:∃ b,b=wA.heap.size:=⟨_,rfl⟩
      have hbB:Below wA.heap.size wA WB:=hWB▸(Below.refl _ _).alloc (Nat.le_refl _) _
      have HBM:Hid (Box WB bm #[.int .i64 r1,.int .i64 r2,.int .i64 r3,.int .i64 r4,.int .i64 r5,.int .i64 r6,.string r7,.string r8,.string r9,.slice qa ql qc]):=Lib.hid (by rw [hWB,hbm];exact Box.new wA _)
      have hcB:Chg (fun _=>False) wr WB:=(below_chg hbA).trans (below_chg hbB) (fun _ _ e=>e)
      have HCWB:=Lib.hid hcB
      have HBB:=Lib.hid hbB
      have HBA:=Lib.hid hbA
      have HTB:=Lib.hid (HT.out.new hcB)
      obtain ⟨gL,Ln,lc,hvl,hKL⟩:∃ gL Ln lc,vL2 = .slice (some ⟨gL,0,none⟩) Ln lc∧k<Ln:=by
       have hKM:k<Ms.length:=(List.getElem?_eq_some_iff.1 HMS.out).1
       rcases HT.out.row.form with ⟨hv0,hm0⟩|⟨gL,lc,hvl,_,_,_⟩
       ·rw [hm0] at hKM;cases hKM
       ·exact ⟨gL,_,lc,hvl,hKM⟩
      obtain ⟨aI,ic,hvi⟩:=ints_form (uints_of_own HT.out.ids)
      rw [HID.out.2] at hvi
      subst hvi
      obtain ⟨gI,oI,haI,_⟩:=ints_cell (uints_of_own HT.out.ids) (k:=k) (by rw [HID.out.2];exact hlt)
      subst haI
      subst hvl
      have HCW:Hid (∀ W,Below WB.heap.size WB W→(∀ i,W.cell? ⟨bm,i,none⟩=(#[.int .i64 r1,.int .i64 r2,.int .i64 r3,.int .i64 r4,.int .i64 r5,.int .i64 r6,.string r7,.string r8,.string r9,.slice qa ql qc]:Array Value)[i]?)∧W.cell? ⟨rb,3,none⟩=some (.slice (some ⟨gL,0,none⟩) Ln lc)∧W.cell? ⟨rb,2,none⟩=some (.slice (some ⟨gI,oI,none⟩) n ic)∧(∀ j u,(#[.int .i64 r1,.int .i64 r2,.int .i64 r3,.int .i64 r4,.int .i64 r5,.int .i64 r6,.string r7,.string r8,.string r9,.slice pa ql pc]:Array Value)[j]? = some u→W.cell? ⟨gL,k*10+j,none⟩=some u)∧W.cell? ⟨gI,oI+k,none⟩=some (.int .i64 id)):=Lib.hid (fun W hW=>by
       have hcW:=below_chg hW
       have hJ:=HTB.out.new hcW
       refine ⟨(show Box W bm #[.int .i64 r1,.int .i64 r2,.int .i64 r3,.int .i64 r4,.int .i64 r5,.int .i64 r6,.string r7,.string r8,.string r9,.slice qa ql qc] from hcW.heap HBM.out (fun e=>e)).cell,by unfold World.cell?;simp [hJ.at_],by unfold World.cell?;simp [hJ.at_],fun j u hu=>?_,?_⟩
       ·rcases hJ.row.form with ⟨hv0,hm0⟩|⟨gL',lc',hvl',_,_,hc⟩
        ·injection hv0 with e1;cases e1
        ·have e1:gL=gL':=by injection hvl' with e1 _ _;injection e1 with e1;injection e1
         subst e1
         exact hc k _ HMS.out j u (by simpa [MsgM.cells] using hu)
       ·obtain ⟨g',o',he',hcc⟩:=ints_cell (uints_of_own hJ.ids) (k:=k) (by rw [HID.out.2];exact hlt)
        rw [HID.out.1] at hcc
        injection he' with e1
        injection e1 with e1 e2 e3
        subst e1
        subst e2
        exact hcc)
      have HSM:Hid (∀ W,Below WB.heap.size WB W→Calls Tryz.prog 20 #[.agg #[.int .i64 r1,.int .i64 r2,.int .i64 r3,.int .i64 r4,.int .i64 r5,.int .i64 r6,.string r7,.string r8,.string r9,.slice qa ql qc],.agg #[.int .i64 r1,.int .i64 r2,.int .i64 r3,.int .i64 r4,.int .i64 r5,.int .i64 r6,.string r7,.string r8,.string r9,.slice pa ql pc]] W fun e w'=>e = .returned (.bool true)∧Below W.heap.size W w'):=Lib.hid (fun W hW=>by
       have hA:Below wA.heap.size wA W:=HBB.out.trans (hW.mono HBB.out.size)
       exact rsame_any (⟨r1,r2,r3,r4,r5,r6,r7,r8,r9,r10⟩:MsgM) (⟨r1,r2,r3,r4,r5,r6,r7,r8,r9,r10⟩:MsgM) (.slice qa ql qc) (.slice pa ql pc) true W (strs_up (HSA.out.below hA (Nat.le_refl _)) (Nat.zero_le _)) (HST.out.below (chg_below (HCH.out.trans (HCWB.out.trans (below_chg hW) (fun _ _ e=>e)) (fun _ _ e=>e))) (Nat.le_refl _)) HML.out HML.out (sameB_iff.2 rfl))
      have hkn:¬ (k:Int)<0:=by omega
      have HWB:=Lib.hid hWB
      have HBMS:=Lib.hid hbm
      clear hsA hcpA hbA hWB hbm hbB hcB hc6
      go_upto_region 47 with fail
      rw [←HWB.out,←HBMS.out]
      refine region_inv' (n:=271) rfl rfl (by kernel_rfl) (by kernel_rfl) (fun i v _=>match i with|0=>v = .int .i64 0|1=>v = .bool false|2=>v = .bool false|3=>v=gv (true) (.agg #[.int .i64 r1,.int .i64 r2,.int .i64 r3,.int .i64 r4,.int .i64 r5,.int .i64 r6,.string r7,.string r8,.string r9,.slice qa ql qc])|4=>v=gv (true) (.pointer (some ⟨rb,0,none⟩))|5=>v=gv (true) (.pointer (some ⟨rb,0,none⟩))|6=>v=gv (true) (.pointer (some ⟨rb,3,none⟩))|7=>v=gv (true) (.slice (some ⟨gL,0,none⟩) Ln lc)|8=>v=gv (true) (.int .i64 (k:Int))|9=>v=gv (true) (.pointer (some ⟨gL,k*10,none⟩))|10=>v=gv (true) (.agg #[.int .i64 r1,.int .i64 r2,.int .i64 r3,.int .i64 r4,.int .i64 r5,.int .i64 r6,.string r7,.string r8,.string r9,.slice pa ql pc])|11=>v=gv (true) (.bool true)|12=>v=gv (true) (.bool false)|13=>v = .bool false|14=>v = .bool false|15=>v=gv (true) (.int .i64 id)|16=>v=gv (true) (.pointer (some ⟨rb,0,none⟩))|17=>v=gv (true) (.pointer (some ⟨rb,0,none⟩))|18=>v=gv (true) (.pointer (some ⟨rb,2,none⟩))|19=>v=gv (true) (.slice (some ⟨gI,oI,none⟩) n ic)|20=>v=gv (true) (.int .i64 (k:Int))|21=>v=gv (true) (.pointer (some ⟨gI,oI+k,none⟩))|22=>v=gv (true) (.int .i64 id)|23=>v=gv (true) (.bool false)|24=>v = .bool false|_=>True)
       (fun w'=>Below WB.heap.size WB w') (fun w' w2=>Below WB.heap.size w' w2) (fun w'=>Below.refl _ _) (fun _ _ _ _ _ h=>h) (Below.refl _ _).drew ?_ ?_
      ·simp only [AllAt]
       refine ⟨?_,?_,?_,?_,?_,?_,?_,?_,?_,?_,?_,?_,?_,?_,?_,?_,?_,?_,?_,?_,?_,?_,?_,?_,?_,trivial⟩
       ·refine StepAt.plain rfl ?_
        intro f w' hG hfr hp Kx hK
        have g24:f 24 = .int .i64 0:=hfr 24 (by kernel_rfl)
        clear hfr hp
        go_simp
        exact hK _ _ rfl hG (Below.refl _ _)
       ·refine StepAt.plain rfl ?_
        intro f w' hG hfr hp Kx hK
        have g202:f 202 = .int .i64 0:=hp 0 _ 202 rfl rfl (by kernel_rfl)
        clear hfr hp
        go_simp
        exact hK _ _ rfl hG (Below.refl _ _)
       ·refine StepAt.plain rfl ?_
        intro f w' hG hfr hp Kx hK
        have g203:f 203 = .bool false:=hp 1 _ 203 rfl rfl (by kernel_rfl)
        clear hfr hp
        go_simp
        exact hK _ _ rfl hG (Below.refl _ _)
       ·refine StepAt.guarded 2 204 false _ rfl rfl rfl (by decide) (by kernel_rfl) (true) (by intro w v h;(have h:v = .bool false:=h);rw [h];(simp [gv,undef])) (by intro h w;show undef=gv (true) _;rw [h];rfl) ?_
        intro hc f w' hG hfr hp Kx hK
        have g23:f 23 = .pointer (some ⟨bm,0,none⟩):=hfr 23 (by kernel_rfl)
        clear hfr hp
        have hbq:=(HCW.out _ hG).1
        go_simp
        exact hK _ _ rfl hG (Below.refl _ _)
       ·refine StepAt.guarded 2 204 false _ rfl rfl rfl (by decide) (by kernel_rfl) (true) (by intro w v h;(have h:v = .bool false:=h);rw [h];(simp [gv,undef])) (by intro h w;show undef=gv (true) _;rw [h];rfl) ?_
        intro hc f w' hG hfr hp Kx hK
        have g8:f 8 = .pointer (some ⟨rb,0,none⟩):=hfr 8 (by kernel_rfl)
        clear hfr hp
        go_simp
        exact hK _ _ rfl hG (Below.refl _ _)
       ·refine StepAt.guarded 2 204 false _ rfl rfl rfl (by decide) (by kernel_rfl) (true) (by intro w v h;(have h:v = .bool false:=h);rw [h];(simp [gv,undef])) (by intro h w;show undef=gv (true) _;rw [h];rfl) ?_
        intro hc f w' hG hfr hp Kx hK
        have g206:f 206=gv (true) (.pointer (some ⟨rb,0,none⟩)):=hp 4 _ 206 rfl rfl (by kernel_rfl)
        clear hfr hp
        simp only [gv_true,gv_false,Bool.not_false,Bool.not_true,Bool.and_true,Bool.true_and] at g206
        go_simp
        exact hK _ _ rfl hG (Below.refl _ _)
       ·refine StepAt.guarded 2 204 false _ rfl rfl rfl (by decide) (by kernel_rfl) (true) (by intro w v h;(have h:v = .bool false:=h);rw [h];(simp [gv,undef])) (by intro h w;show undef=gv (true) _;rw [h];rfl) ?_
        intro hc f w' hG hfr hp Kx hK
        have g207:f 207=gv (true) (.pointer (some ⟨rb,0,none⟩)):=hp 5 _ 207 rfl rfl (by kernel_rfl)
        clear hfr hp
        simp only [gv_true,gv_false,Bool.not_false,Bool.not_true,Bool.and_true,Bool.true_and] at g207
        go_simp
        exact hK _ _ rfl hG (Below.refl _ _)
       ·refine StepAt.guarded 2 204 false _ rfl rfl rfl (by decide) (by kernel_rfl) (true) (by intro w v h;(have h:v = .bool false:=h);rw [h];(simp [gv,undef])) (by intro h w;show undef=gv (true) _;rw [h];rfl) ?_
        intro hc f w' hG hfr hp Kx hK
        have g208:f 208=gv (true) (.pointer (some ⟨rb,3,none⟩)):=hp 6 _ 208 rfl rfl (by kernel_rfl)
        clear hfr hp
        simp only [gv_true,gv_false,Bool.not_false,Bool.not_true,Bool.and_true,Bool.true_and] at g208
        have hc3:=(HCW.out _ hG).2.1
        go_simp
        exact hK _ _ rfl hG (Below.refl _ _)
       ·refine StepAt.guarded 2 204 false _ rfl rfl rfl (by decide) (by kernel_rfl) (true) (by intro w v h;(have h:v = .bool false:=h);rw [h];(simp [gv,undef])) (by intro h w;show undef=gv (true) _;rw [h];rfl) ?_
        intro hc f w' hG hfr hp Kx hK
        have g21:f 21 = .int .i64 (k:Int):=hfr 21 (by kernel_rfl)
        clear hfr hp
        go_simp
        exact hK _ _ rfl hG (Below.refl _ _)
       ·refine StepAt.guarded 2 204 false _ rfl rfl rfl (by decide) (by kernel_rfl) (true) (by intro w v h;(have h:v = .bool false:=h);rw [h];(simp [gv,undef])) (by intro h w;show undef=gv (true) _;rw [h];rfl) ?_
        intro hc f w' hG hfr hp Kx hK
        have g209:f 209=gv (true) (.slice (some ⟨gL,0,none⟩) Ln lc):=hp 7 _ 209 rfl rfl (by kernel_rfl)
        have g210:f 210=gv (true) (.int .i64 (k:Int)):=hp 8 _ 210 rfl rfl (by kernel_rfl)
        clear hfr hp
        simp only [gv_true,gv_false,Bool.not_false,Bool.not_true,Bool.and_true,Bool.true_and] at g209 g210
        have hki:(k:Int)<(Ln:Int):=by omega
        go_simp
        exact hK _ _ rfl hG (Below.refl _ _)
       ·refine StepAt.guarded 2 204 false _ rfl rfl rfl (by decide) (by kernel_rfl) (true) (by intro w v h;(have h:v = .bool false:=h);rw [h];(simp [gv,undef])) (by intro h w;show undef=gv (true) _;rw [h];rfl) ?_
        intro hc f w' hG hfr hp Kx hK
        have g211:f 211=gv (true) (.pointer (some ⟨gL,k*10,none⟩)):=hp 9 _ 211 rfl rfl (by kernel_rfl)
        clear hfr hp
        simp only [gv_true,gv_false,Bool.not_false,Bool.not_true,Bool.and_true,Bool.true_and] at g211
        have hrow:=(HCW.out _ hG).2.2.2.1
        have f0:w'.cell? ⟨gL,k*10,none⟩=some (.int .i64 r1):=hrow 0 _ rfl
        have f1:w'.cell? ⟨gL,k*10+1,none⟩=some (.int .i64 r2):=hrow 1 _ rfl
        have f2:w'.cell? ⟨gL,k*10+1+1,none⟩=some (.int .i64 r3):=hrow 2 _ rfl
        have f3:w'.cell? ⟨gL,k*10+1+1+1,none⟩=some (.int .i64 r4):=hrow 3 _ rfl
        have f4:w'.cell? ⟨gL,k*10+1+1+1+1,none⟩=some (.int .i64 r5):=hrow 4 _ rfl
        have f5:w'.cell? ⟨gL,k*10+1+1+1+1+1,none⟩=some (.int .i64 r6):=hrow 5 _ rfl
        have f6:w'.cell? ⟨gL,k*10+1+1+1+1+1+1,none⟩=some (.string r7):=hrow 6 _ rfl
        have f7:w'.cell? ⟨gL,k*10+1+1+1+1+1+1+1,none⟩=some (.string r8):=hrow 7 _ rfl
        have f8:w'.cell? ⟨gL,k*10+1+1+1+1+1+1+1+1,none⟩=some (.string r9):=hrow 8 _ rfl
        have f9:w'.cell? ⟨gL,k*10+1+1+1+1+1+1+1+1+1,none⟩=some (.slice pa ql pc):=hrow 9 _ rfl
        clear hrow
        go_simp
        exact hK _ _ rfl hG (Below.refl _ _)
       ·refine StepAt.guarded 2 204 false _ rfl rfl rfl (by decide) (by kernel_rfl) (true) (by intro w v h;(have h:v = .bool false:=h);rw [h];(simp [gv,undef])) (by intro h w;show undef=gv (true) _;rw [h];rfl) ?_
        intro hc f w' hG hfr hp Kx hK
        have g205:f 205=gv (true) (.agg #[.int .i64 r1,.int .i64 r2,.int .i64 r3,.int .i64 r4,.int .i64 r5,.int .i64 r6,.string r7,.string r8,.string r9,.slice qa ql qc]):=hp 3 _ 205 rfl rfl (by kernel_rfl)
        have g212:f 212=gv (true) (.agg #[.int .i64 r1,.int .i64 r2,.int .i64 r3,.int .i64 r4,.int .i64 r5,.int .i64 r6,.string r7,.string r8,.string r9,.slice pa ql pc]):=hp 10 _ 212 rfl rfl (by kernel_rfl)
        clear hfr hp
        simp only [gv_true,gv_false,Bool.not_false,Bool.not_true,Bool.and_true,Bool.true_and] at g205 g212
        go_simp
        refine (HSM.out _ hG).mono ?_
        rintro e w2 ⟨rfl,hb⟩
        exact hK _ _ rfl (Below.trans hG (Below.mono hb hG.size)) (Below.mono hb hG.size)
       ·refine StepAt.guarded 2 204 false _ rfl rfl rfl (by decide) (by kernel_rfl) (true) (by intro w v h;(have h:v = .bool false:=h);rw [h];(simp [gv,undef])) (by intro h w;show undef=gv (true) _;rw [h];rfl) ?_
        intro hc f w' hG hfr hp Kx hK
        have g213:f 213=gv (true) (.bool true):=hp 11 _ 213 rfl rfl (by kernel_rfl)
        clear hfr hp
        simp only [gv_true,gv_false,Bool.not_false,Bool.not_true,Bool.and_true,Bool.true_and] at g213
        go_simp
        exact hK _ _ rfl hG (Below.refl _ _)
       ·refine StepAt.plain rfl ?_
        intro f w' hG hfr hp Kx hK
        have g204:f 204 = .bool false:=hp 2 _ 204 rfl rfl (by kernel_rfl)
        have g214:f 214=gv (true) (.bool false):=hp 12 _ 214 rfl rfl (by kernel_rfl)
        clear hfr hp
        simp only [gv_true,gv_false] at g214
        go_simp
        exact hK _ _ rfl hG (Below.refl _ _)
       ·refine StepAt.plain rfl ?_
        intro f w' hG hfr hp Kx hK
        have g215:f 215 = .bool false:=hp 13 _ 215 rfl rfl (by kernel_rfl)
        clear hfr hp
        go_simp
        exact hK _ _ rfl hG (Below.refl _ _)
       ·refine StepAt.guarded 14 216 false _ rfl rfl rfl (by decide) (by kernel_rfl) (true) (by intro w v h;(have h:v = .bool false:=h);rw [h];(simp [gv,undef])) (by intro h w;show undef=gv (true) _;rw [h];rfl) ?_
        intro hc f w' hG hfr hp Kx hK
        have g22:f 22 = .int .i64 id:=hfr 22 (by kernel_rfl)
        clear hfr hp
        go_simp
        exact hK _ _ rfl hG (Below.refl _ _)
       ·refine StepAt.guarded 14 216 false _ rfl rfl rfl (by decide) (by kernel_rfl) (true) (by intro w v h;(have h:v = .bool false:=h);rw [h];(simp [gv,undef])) (by intro h w;show undef=gv (true) _;rw [h];rfl) ?_
        intro hc f w' hG hfr hp Kx hK
        have g8:f 8 = .pointer (some ⟨rb,0,none⟩):=hfr 8 (by kernel_rfl)
        clear hfr hp
        go_simp
        exact hK _ _ rfl hG (Below.refl _ _)
       ·refine StepAt.guarded 14 216 false _ rfl rfl rfl (by decide) (by kernel_rfl) (true) (by intro w v h;(have h:v = .bool false:=h);rw [h];(simp [gv,undef])) (by intro h w;show undef=gv (true) _;rw [h];rfl) ?_
        intro hc f w' hG hfr hp Kx hK
        have g218:f 218=gv (true) (.pointer (some ⟨rb,0,none⟩)):=hp 16 _ 218 rfl rfl (by kernel_rfl)
        clear hfr hp
        simp only [gv_true,gv_false,Bool.not_false,Bool.not_true,Bool.and_true,Bool.true_and] at g218
        go_simp
        exact hK _ _ rfl hG (Below.refl _ _)
       ·refine StepAt.guarded 14 216 false _ rfl rfl rfl (by decide) (by kernel_rfl) (true) (by intro w v h;(have h:v = .bool false:=h);rw [h];(simp [gv,undef])) (by intro h w;show undef=gv (true) _;rw [h];rfl) ?_
        intro hc f w' hG hfr hp Kx hK
        have g219:f 219=gv (true) (.pointer (some ⟨rb,0,none⟩)):=hp 17 _ 219 rfl rfl (by kernel_rfl)
        clear hfr hp
        simp only [gv_true,gv_false,Bool.not_false,Bool.not_true,Bool.and_true,Bool.true_and] at g219
        go_simp
        exact hK _ _ rfl hG (Below.refl _ _)
       ·refine StepAt.guarded 14 216 false _ rfl rfl rfl (by decide) (by kernel_rfl) (true) (by intro w v h;(have h:v = .bool false:=h);rw [h];(simp [gv,undef])) (by intro h w;show undef=gv (true) _;rw [h];rfl) ?_
        intro hc f w' hG hfr hp Kx hK
        have g220:f 220=gv (true) (.pointer (some ⟨rb,2,none⟩)):=hp 18 _ 220 rfl rfl (by kernel_rfl)
        clear hfr hp
        simp only [gv_true,gv_false,Bool.not_false,Bool.not_true,Bool.and_true,Bool.true_and] at g220
        have hc2:=(HCW.out _ hG).2.2.1
        go_simp
        exact hK _ _ rfl hG (Below.refl _ _)
       ·refine StepAt.guarded 14 216 false _ rfl rfl rfl (by decide) (by kernel_rfl) (true) (by intro w v h;(have h:v = .bool false:=h);rw [h];(simp [gv,undef])) (by intro h w;show undef=gv (true) _;rw [h];rfl) ?_
        intro hc f w' hG hfr hp Kx hK
        have g21:f 21 = .int .i64 (k:Int):=hfr 21 (by kernel_rfl)
        clear hfr hp
        go_simp
        exact hK _ _ rfl hG (Below.refl _ _)
       ·refine StepAt.guarded 14 216 false _ rfl rfl rfl (by decide) (by kernel_rfl) (true) (by intro w v h;(have h:v = .bool false:=h);rw [h];(simp [gv,undef])) (by intro h w;show undef=gv (true) _;rw [h];rfl) ?_
        intro hc f w' hG hfr hp Kx hK
        have g221:f 221=gv (true) (.slice (some ⟨gI,oI,none⟩) n ic):=hp 19 _ 221 rfl rfl (by kernel_rfl)
        have g222:f 222=gv (true) (.int .i64 (k:Int)):=hp 20 _ 222 rfl rfl (by kernel_rfl)
        clear hfr hp
        simp only [gv_true,gv_false,Bool.not_false,Bool.not_true,Bool.and_true,Bool.true_and] at g221 g222
        have hki:(k:Int)<(n:Int):=by omega
        go_simp
        exact hK _ _ rfl hG (Below.refl _ _)
       ·refine StepAt.guarded 14 216 false _ rfl rfl rfl (by decide) (by kernel_rfl) (true) (by intro w v h;(have h:v = .bool false:=h);rw [h];(simp [gv,undef])) (by intro h w;show undef=gv (true) _;rw [h];rfl) ?_
        intro hc f w' hG hfr hp Kx hK
        have g223:f 223=gv (true) (.pointer (some ⟨gI,oI+k,none⟩)):=hp 21 _ 223 rfl rfl (by kernel_rfl)
        clear hfr hp
        simp only [gv_true,gv_false,Bool.not_false,Bool.not_true,Bool.and_true,Bool.true_and] at g223
        have hci:=(HCW.out _ hG).2.2.2.2
        go_simp
        exact hK _ _ rfl hG (Below.refl _ _)
       ·refine StepAt.guarded 14 216 false _ rfl rfl rfl (by decide) (by kernel_rfl) (true) (by intro w v h;(have h:v = .bool false:=h);rw [h];(simp [gv,undef])) (by intro h w;show undef=gv (true) _;rw [h];rfl) ?_
        intro hc f w' hG hfr hp Kx hK
        have g217:f 217=gv (true) (.int .i64 id):=hp 15 _ 217 rfl rfl (by kernel_rfl)
        have g224:f 224=gv (true) (.int .i64 id):=hp 22 _ 224 rfl rfl (by kernel_rfl)
        clear hfr hp
        simp only [gv_true,gv_false,Bool.not_false,Bool.not_true,Bool.and_true,Bool.true_and] at g217 g224
        go_simp
        exact hK _ _ rfl hG (Below.refl _ _)
       ·refine StepAt.plain rfl ?_
        intro f w' hG hfr hp Kx hK
        have g216:f 216 = .bool false:=hp 14 _ 216 rfl rfl (by kernel_rfl)
        have g225:f 225=gv (true) (.bool false):=hp 23 _ 225 rfl rfl (by kernel_rfl)
        clear hfr hp
        simp only [gv_true,gv_false] at g225
        go_simp
        exact hK _ _ rfl hG (Below.refl _ _)
      ·intro fz wz hG hfr hR
       have g226:fz 226 = .bool false:=hR 24 _ 226 rfl rfl
       have HG9:=Lib.hid hG
       clear hR hG
       have hback:=fr_back (n:=271) (f:=fz) (D:=[202,203,204,205,206,207,208,209,210,211,212,213,214,215,216,217,218,219,220,221,222,223,224,225,226]) rfl (by kernel_rfl) hfr
       rw [hback]
       simp only [mixL,List.elem_eq_contains,List.contains_cons,List.contains_nil,Nat.reduceBEq,Nat.reduceAdd,Bool.or_false,Bool.or_true,Bool.false_or,Bool.true_or,cond_false,cond_true,Bool.or_self,Nat.zero_add]
       clear hback hfr
       rw [g226]
       have HCZ:=Lib.hid (HC.out.trans (HCWB.out.trans (below_chg HG9.out) (fun _ _ e=>e)) (fun _ _ e=>e))
       go_wp2_with fail
       exact ⟨⟨k+1,by omega,by go_num,HCZ⟩,by simp [intOf];omega⟩
    ·as_aux_lemma=>
      have hzr:=HZ6.out.new HC.out
      have hca:=(HA0.out.new hzr.chg).cm
      rw [HCMM.out] at hca
      have hrel:=hzr.ref.2
      have hmk:m10.length≤10000:=Nat.le_trans (HFM.out _ (List.mem_singleton.2 rfl)).many (by decide)
      obtain ⟨cC,hCo,hAp⟩:=hzr.step (M:=(⟨m1,m2,m3,m4,m5,m6,m7,m8,m9,m10⟩:MsgM)) (vk:=.slice ka kl kc) (HSM.out.strs.below (chg_below hzr.chg) (Nat.le_refl _)) HCM.out (HFM.out _ (List.mem_singleton.2 rfl)).sound
      have HREL:=Lib.hid hrel
      have HMK:=Lib.hid hmk
      have HCO:=Lib.hid hCo
      have HAP:=Lib.hid hAp
      have HCH:=Lib.hid hzr.chg
      clear hzr hCo hAp hrel hmk
      unfold MsgM.val MsgM.cells at HCO HAP
      dsimp only at HCO HAP
      by_cases hc0:cC=0
      ·have hc1:((cC:Int) == 0)=true:=by simp [hc0]
       go_wp2_with fail
       refine HCO.out.mono ?_
       rintro e w8 ⟨rfl,hb8⟩
       have HB8:=Lib.hid hb8
       clear hb8 hca
       go_wp2_with fail
       go_ret
       exact ⟨rfl,HFIN.out _ (HCH.out.trans (below_chg HB8.out) (fun _ _ e=>e))⟩
      ·have hc1:((cC:Int) == 0)=false:=by simp [hc0]
       go_wp2_with fail
       refine HCO.out.mono ?_
       rintro e w8 ⟨rfl,hb8⟩
       have HB8:=Lib.hid hb8
       clear hca
       have hca:=(HA0.out.new (HCH.out.trans (below_chg hb8) (fun _ _ e=>e))).cm
       rw [HCMM.out] at hca
       clear hb8
       go_wp2_with fail
       refine (HAP.out hc0 w8 HB8.out).mono ?_
       rintro e w9 ⟨id,rfl,hW,he1,he2⟩
       have HW9:=Lib.hid hW
       have HRD:=Lib.hid (hW.2.1 w9 (Chg.refl _ _))
       have HE1:=Lib.hid (And.intro he1 he2)
       clear hca hW he1 he2
       go_wp2_with fail
       refine HRD.out.mono ?_
       rintro e wA ⟨vq,rfl,hsA,hcpA,hbA⟩
       obtain ⟨qa,qc,hvq⟩:=hsA.form
       dsimp only at hvq hsA
       rw [←HKL.out] at hvq
       subst hvq
       unfold MsgM.val MsgM.cells
       dsimp only
       obtain ⟨WB,hWB⟩:∃ W,W=wA.alloc (.cells #[.int .i64 m1,.int .i64 m2,.int .i64 m3,.int .i64 m4,.int .i64 m5,.int .i64 m6,.string m7,.string m8,.string m9,.slice qa kl qc] 30):=⟨_,rfl⟩
       obtain ⟨bm,hbm⟩:∃ b,b=wA.heap.size:=⟨_,rfl⟩
       have hbB:Below wA.heap.size wA WB:=hWB▸(Below.refl _ _).alloc (Nat.le_refl _) _
       have HBM:Hid (Box WB bm #[.int .i64 m1,.int .i64 m2,.int .i64 m3,.int .i64 m4,.int .i64 m5,.int .i64 m6,.string m7,.string m8,.string m9,.slice qa kl qc]):=Lib.hid (by rw [hWB,hbm];exact Box.new wA _)
       have hcB:Chg (fun _=>False) w9 WB:=(below_chg hbA).trans (below_chg hbB) (fun _ _ e=>e)
       have HBMS:Hid (w9.heap.size≤bm):=Lib.hid (by rw [hbm];exact hbA.size)
       have HSA:Hid (Strs WB w9.heap.size (.slice qa kl qc) m10):=Lib.hid (hsA.below hbB (Nat.le_refl _))
       have HCB:=Lib.hid hcB
       obtain ⟨B3,vI3,vL3,hB3,hBl3⟩:=(HW9.out.new hcB).ref
       have hr0:WB.cell? ⟨rb,0,none⟩=some (.string B3):=by unfold World.cell?;simp [hB3]
       have HB3:=Lib.hid hBl3
       have HWB:=Lib.hid hWB
       have HBM2:=Lib.hid hbm
       clear hsA hcpA hbA hWB hbm hbB hcB hB3 hBl3
       go_upto_region 54 with fail
       rw [←HWB.out,←HBM2.out]
       clear HWB HBM2
       have hca:=(HA0.out.new (HW9.out.1.trans HCB.out (fun _ _ e=>e))).cm
       rw [HCMM.out] at hca
       have hb3:=HB3.out
       go_upto_if 251 with fail
       go_cut [29] (fun v wx=>v = .int .i64 id∧Hid (Chg (fun _=>False) W0 wx∧Chg (fun q=>q<w9.heap.size) WB wx))
       case first=>
        by_cases hee:en=bl
        ·subst hee
         have HAR:=Lib.hid (HW9.out.app HCB.out HSM.out.strs (HFM.out _ (List.mem_singleton.2 rfl)).sound)
         have hid:=HE1.out.1 rfl
         obtain ⟨ff,hff⟩:∃ f:Nat,f=en+fillR en (⟨m1,m2,m3,m4,m5,m6,m7,m8,m9,m10⟩:MsgM):=⟨_,rfl⟩
         unfold MsgM.val MsgM.cells at HAR
         dsimp only at HAR
         rw [←hff] at hid HAR
         subst hid
         clear hff
         go_wp2_with fail
         refine HAR.out.mono ?_
         rintro e wC ⟨rfl,hx1,hx2⟩
         have HXX:=Lib.hid (And.intro hx1 hx2)
         clear hx1 hx2 hr0 hca
         go_wp2_with fail
         go_meet
         case rel=>exact ⟨rfl,HXX⟩
        ·have hid:=HE1.out.2 hee
         subst hid
         have hee2:((en:Int) == (bl:Int))=false:=by simp;omega
         have hee3:(en == bl)=false:=by simp;omega
         have hee4:¬ (en:Int)=(bl:Int):=by omega
         go_wp2_with fail
         go_meet
         case rel=>exact ⟨rfl,Lib.hid ⟨HW9.out.1.trans HCB.out (fun _ _ e=>e),Chg.refl _ _⟩⟩
       case rest=>
        obtain ⟨rfl,HX⟩:=hcut
        clear hr0 hca hb3
        have hca:=(HA0.out.new HX.out.1).cm
        rw [HCMM.out] at hca
        have hbq:=(show Box wc bm #[.int .i64 m1,.int .i64 m2,.int .i64 m3,.int .i64 m4,.int .i64 m5,.int .i64 m6,.string m7,.string m8,.string m9,.slice qa kl qc] from HX.out.2.heap HBM.out (fun x=>by have:=HBMS.out;have:bm<w9.heap.size:=x;omega)).cell
        have HSMF:=Lib.hid (rsame_any (⟨m1,m2,m3,m4,m5,m6,m7,m8,m9,m10⟩:MsgM) (⟨m1,m2,m3,m4,m5,m6,m7,m8,m9,m10⟩:MsgM) (.slice qa kl qc) (.slice ka kl kc) true wc (strs_up (strs_over HSA.out HX.out.2) (Nat.zero_le _)) (HSM.out.strs.below (chg_below HX.out.1) (Nat.le_refl _)) HMK.out HMK.out (sameB_iff.2 rfl))
        unfold MsgM.val MsgM.cells at HSMF
        dsimp only at HSMF
        go_wp2_with fail
        refine HSMF.out.mono ?_
        rintro e wE ⟨rfl,hbE⟩
        have HBE:=Lib.hid hbE
        clear hca hbq hbE
        go_wp2_with fail
        go_ret
        exact ⟨by simp,HFIN.out _ (HX.out.1.trans (below_chg HBE.out) (fun _ _ e=>e))⟩
end Go.Proofs.YtnemlgfldfedpaaGreatDoor
