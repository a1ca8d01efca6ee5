/- A part. -/
import Derived.Test.YtajmeimjaapagaaGreatDoorDor9
import Derived.Test.YtajmeimjaapagaaGreatDoorDor45
import Derived.Test.YtajmeimjaapagaaGreatDoorDor51
set_option linter.unusedVariables false
set_option linter.unusedSimpArgs false
namespace Go.Proofs.YtajmeimjaapagaaGreatDoor
open Go.RowKit Go.Deep
attribute [local go_sem] fr_opt
structure LgI (w0 w:World) (lb wb:Nat) (g:Gh) (st:St) (n:Nat) (hd:Int) (L:List Nat) (ms:List MkM):Prop where
 wh:WhI w0 w wb g st n hd L
 cell:w.heap[lb]? = some (.cells #[.pointer (some ⟨wb,0,none⟩),.int .i64 (ms.length:Nat)] 83 (0,0))
 low:w0.heap.size≤lb
 out:lb∉g.fp
 ne:lb≠wb
 file:∃ f,st.find wM=some f∧f.bytes=mksB ms
 ok:∀ m∈ms,MkOk m
 size:st.size=96+20*ms.length
section
variable {w0 w w':World} {lb wb:Nat} {g:Gh} {st:St} {n:Nat} {hd:Int} {L:List Nat} {ms:List MkM}
theorem LgI.lt (h:LgI w0 w lb wb g st n hd L ms):lb<w.heap.size:=(Array.getElem?_eq_some_iff.1 h.cell).1
theorem LgI.chgd {S:Nat→Prop} (h:LgI w0 w lb wb g st n hd L ms) (hc:Chg S w w') (hl:¬ S lb) (hx:¬ S wb) (hS:∀ q∈g.fp,¬ S q) (h0:∀ q,q<w0.heap.size→¬ S q):LgI w0 w' lb wb g st n hd L ms:=
 ⟨h.wh.chgd hc hx hS h0,hc.heap h.cell hl,h.low,h.out,h.ne,h.file,h.ok,h.size⟩
theorem LgI.new (h:LgI w0 w lb wb g st n hd L ms) (hc:Chg (fun _=>False) w w'):LgI w0 w' lb wb g st n hd L ms:=h.chgd hc (fun x=>x) (fun x=>x) (fun _ _ x=>x) (fun _ _ x=>x)
theorem LgI.more {m:Nat} (h:LgI w0 w lb wb g st n hd L ms) (hm:n≤m):LgI w0 w lb wb g st m hd L ms:=⟨h.wh.more hm,h.cell,h.low,h.out,h.ne,h.file,h.ok,h.size⟩
theorem LgI.cells (h:LgI w0 w lb wb g st n hd L ms):w.cell? ⟨lb,0,none⟩=some (.pointer (some ⟨wb,0,none⟩))∧w.cell? ⟨lb,1,none⟩=some (.int .i64 (ms.length:Nat))∧∀ i,w.frozen? ⟨lb,i,none⟩=false:=by
 have h:=h.cell
 refine ⟨?_,?_,fun i=>?_⟩<;>simp [World.cell?,World.frozen?,h]
theorem LgI.count (h:LgI w0 w lb wb g st n hd L ms):ms.length≤838860:=by
 have h1:=h.size
 have h2:=h.wh.ease.good.size
 have h3:=h.wh.ease.good.cap
 omega
theorem lghand_any (h:LgI w0 w lb wb g st n hd L ms) :
 Calls Tryz.prog 11 #[.pointer (some ⟨lb,0,none⟩)] w fun e w'=>e = .returned (.int .i64 hd)∧w=w':=by
 have HH:=Lib.hid (hand_any h.wh)
 obtain ⟨c0,_,_⟩:=h.cells
 clear h
 go_enter Tryz.func11,Tryz.ntmps11
 go_wp2_with fail
 refine HH.out.mono ?_
 rintro e w1 ⟨rfl,rfl⟩
 go_wp2_with fail
 go_ret
 exact ⟨rfl,rfl⟩
theorem lplace_any (k:Nat) (w:World) (hk:k≤1000000):Calls Tryz.prog 82 #[.int .i64 ((k:Int)+1)] w fun e w'=>e = .returned (.int .i64 ((20*k:Nat):Int))∧w=w':=by
 obtain ⟨x,hx⟩:∃ x:Int,x=(k:Int)+1:=⟨_,rfl⟩
 have e1:IntKind.i64.wrap (x - 1)=(k:Int):=by rw [hx,IntWalk.i64_in _ (by omega)];omega
 have e2:IntKind.i64.wrap ((k:Int)*20)=((20*k:Nat):Int):=by rw [IntWalk.i64_in _ (by omega)];omega
 have e3:x - 1=(k:Int):=by omega
 have e4:(k:Int)*20=((20*k:Nat):Int):=by omega
 rw [←hx]
 clear hx
 obtain ⟨y,hy⟩:∃ y:Int,y=((20*k:Nat):Int):=⟨_,rfl⟩
 obtain ⟨z,hz⟩:∃ z:Int,z=(k:Int):=⟨_,rfl⟩
 rw [←hy,←hz] at e2 e4
 rw [←hz] at e1 e3
 rw [←hy]
 have E3:=Lib.hid e3
 have E4:=Lib.hid e4
 clear hy hz e3 e4
 go_enter Tryz.func82,Tryz.ntmps82
 go_wp2_with fail
 go_ret
 exact ⟨rfl,rfl⟩
theorem lright_any (x:Int) (w:World):Calls Tryz.prog 36 #[.int .i64 x] w fun e w'=>e = .returned (.bool (decide (0≤x) && decide (x≤1099511627776)))∧w=w':=by
 by_cases h0:0≤x
 ·have e0:decide (0≤x)=true:=decide_eq_true h0
  by_cases h1:x≤1099511627776
  ·have e1:decide (x≤1099511627776)=true:=decide_eq_true h1
   rw [e0,e1]
   go_enter Tryz.func36,Tryz.ntmps36
   go_wp2_with fail
   go_ret
   exact ⟨rfl,rfl⟩
  ·have e1:decide (x≤1099511627776)=false:=decide_eq_false h1
   rw [e0,e1]
   go_enter Tryz.func36,Tryz.ntmps36
   go_wp2_with fail
   go_ret
   exact ⟨rfl,rfl⟩
 ·have e0:decide (0≤x)=false:=decide_eq_false h0
  rw [e0]
  go_enter Tryz.func36,Tryz.ntmps36
  go_wp2_with fail
  go_ret
  exact ⟨rfl,rfl⟩
def mkV (m:MkM):Value:=.agg #[.int .i64 (m.due:Nat),.int .i64 (m.rc:Nat),.int .i64 (m.ah:Nat),.int .i64 (m.ps:Nat)]
set_option maxHeartbeats 2000000 in
set_option maxRecDepth 100000 in
theorem mark_any (h:LgI w0 w lb wb g st n hd L ms) (k:Nat) (m:MkM) (hm:ms[k]? = some m) :
 Calls Tryz.prog 208 #[.pointer (some ⟨lb,0,none⟩),.int .i64 ((k:Int)+1)] w fun e w'=>e = .returned (.tuple #[mkV m,.int .i64 0])∧Below w.heap.size w w':=by
 obtain ⟨c0,_,_⟩:=h.cells
 obtain ⟨d0,_,_⟩:=h.wh.cells
 obtain ⟨f,hf,hfb⟩:=h.file
 have hcnt:=h.count
 have hkl:k<ms.length:=(List.getElem?_eq_some_iff.1 hm).1
 have hD:∀ W,Below w.heap.size w W→Calls Tryz.prog 75 #[.pointer (some ⟨g.d,0,none⟩),.string wM,.int .i64 ((20*k:Nat):Int),.int .i64 20] W fun e w'=>e = .returned (.tuple #[.string ⟨(mkB m).toArray⟩,.int .i64 0])∧Below W.heap.size W w':=fun W hW=>by
  have:=wread_ok g st wM f (20*k) 20 W (h.wh.disk.new (Chg.of_below hW)) (by decide) h.wh.ease.down hf (by omega) (by rw [hfb,mksB_length];omega) (by rw [hfb,mksB_length];omega)
  rw [hfb,mksB_at ms k m hm] at this
  exact this
 obtain ⟨g1,g2,g3,g4,g5⟩:=mk_get (h.ok m (List.mem_of_getElem? hm))
 obtain ⟨s,hs⟩:∃ s:ByteArray,s=⟨(mkB m).toArray⟩:=⟨_,rfl⟩
 rw [←hs] at g1 g2 g3 g4 g5
 have hG:∀ W,Calls Tryz.prog 237 #[.string s] W fun e w'=>e = .returned (.tuple #[mkV m,.bool true])∧Below W.heap.size W w':=fun W=>by
  have:=markGet_any s W
  unfold GetPost at this
  rw [show ([6,6,6,2]:List Nat)=mkW from rfl,g1,g2,g3,g4,g5] at this
  exact this
 simp only [←hs] at hD
 obtain ⟨t,ht⟩:∃ t,t=20*k:=⟨_,rfl⟩
 obtain ⟨nn,hnn⟩:∃ nn:Int,nn=(k:Int)+1:=⟨_,rfl⟩
 have HP:Hid (∀ W,Calls Tryz.prog 82 #[.int .i64 nn] W fun e w'=>e = .returned (.int .i64 (t:Int))∧W=w'):=Lib.hid (fun W=>by rw [hnn,ht];exact lplace_any k W (by omega))
 rw [←ht] at hD
 rw [←hnn]
 have hlbt:=h.lt
 have hwbt:=h.wh.lt
 obtain ⟨md,mr,ma,mp⟩:=m
 unfold mkV at hG ⊢
 dsimp only at hG ⊢
 have HG:=Lib.hid hG
 have HR:=Lib.hid hD
 obtain ⟨W0,hW0⟩:∃ W,W=w.alloc (.cells #[.int .i64 0,.int .i64 0,.int .i64 0,.int .i64 0] 89):=⟨_,rfl⟩
 have hb0:Below w.heap.size w W0:=hW0▸(Below.refl _ _).alloc (Nat.le_refl _) _
 have k0:=(hb0.cell (p:=⟨lb,0,none⟩) hlbt).trans c0
 have k1:=(hb0.cell (p:=⟨wb,0,none⟩) hwbt).trans d0
 have HZ:Hid (W0.rowIs w.heap.size 89 4 (fun _=>.int .i64 0)):=Lib.hid (hW0▸row4 w 89)
 have HB0:=Lib.hid hb0
 have HW0:=Lib.hid hW0
 clear h hm hkl hcnt hf hfb g1 g2 g3 g4 g5 hD hG hs ht hnn c0 d0 hb0 hW0 hlbt hwbt
 go_enter Tryz.func208,Tryz.ntmps208
 go_upto_region 1 with fail
 rw [←HW0.out]
 go_cut [6,7] (fun v6 v7 wx=>v6 = .string s∧v7 = .int .i64 0∧Below W0.heap.size W0 wx)
 case first=>
  go_region_held3 (fun w'=>w'.cell? ⟨lb,0,none⟩=some (.pointer (some ⟨wb,0,none⟩))∧w'.cell? ⟨wb,0,none⟩=some (.pointer (some ⟨g.d,0,none⟩)))
   (first|exact ⟨k0,k1⟩|go_keep)
   (first
    | (go_at_call 82
       refine (HP.out _).mono ?_
       rintro e w2 ⟨rfl,rfl⟩)
    | (go_at_call 75
       refine (HR.out _ ?_).mono ?_
       ·repeat (first|exact HB0.out|with_reducible refine Below.drew ?_|with_reducible refine Below.drewN ?_ _)
       rintro e w2 ⟨rfl,hb2⟩
       have k0:=keep4 hb2 k0
       have k1:=keep4 hb2 k1
       have HB2:=Lib.hid hb2
       clear hb2))
  all_goals
   go_wp2_with fail
   go_meet
   case rel=>exact ⟨rfl,rfl,by repeat (first|exact Below.refl _ _|with_reducible refine below_drewN ?_ _|with_reducible refine Below.drew ?_|refine below_on HB2.out ?_ (Nat.le_refl _))⟩
 case rest=>
  obtain ⟨rfl,rfl,hb1⟩:=hcut
  have HB1:=Lib.hid (HB0.out.trans (hb1.mono HB0.out.size))
  have HZ1:=Lib.hid (HZ.out.of_block (hb1.block _ HZ.out.lt))
  clear hb1 k0 k1
  go_wp2_with fail
  refine (HG.out _).mono ?_
  rintro e w2 ⟨rfl,hb2⟩
  have hr2:=HZ1.out.of_block (hb2.block _ HZ1.out.lt)
  have HB2:=Lib.hid (HB1.out.trans (hb2.mono HB1.out.size))
  have HR2:=Lib.hid hr2
  clear hb2 hr2
  obtain ⟨W2,hW2⟩:∃ W,W=w2.alloc (.cells #[.int .i64 md,.int .i64 mr,.int .i64 ma,.int .i64 mp] 89):=⟨_,rfl⟩
  have hlt:=HR2.out.lt
  have hrow2:W2.rowIs w.heap.size 89 4 (fun _=>.int .i64 0):=HR2.out.of_block (by rw [hW2];exact (((Below.refl w2.heap.size w2).alloc (Nat.le_refl _) _).block _ hlt))
  have q0:∀ i,i<4→W2.cell? ⟨w.heap.size,i,none⟩=some (.int .i64 0):=fun i hi=>hrow2.cell (i:=i) hi
  have hfz:∀ i,W2.frozen? ⟨w.heap.size,i,none⟩=false:=fun i=>hrow2.frozen i
  have hB2':Below w.heap.size w W2:=by rw [hW2];exact HB2.out.alloc HB2.out.size _
  have r0:=q0 0 (by decide)
  have r1:=q0 1 (by decide)
  have r2:=q0 2 (by decide)
  have r3:=q0 3 (by decide)
  have f0:=hfz 0
  have f1:=hfz 1
  have f2:=hfz 2
  have f3:=hfz 3
  have s0:W2.cell? ⟨w2.heap.size,0,none⟩=some (.int .i64 md):=by rw [hW2];simp
  have s1:W2.cell? ⟨w2.heap.size,1,none⟩=some (.int .i64 mr):=by rw [hW2];simp
  have s2:W2.cell? ⟨w2.heap.size,2,none⟩=some (.int .i64 ma):=by rw [hW2];simp
  have s3:W2.cell? ⟨w2.heap.size,3,none⟩=some (.int .i64 mp):=by rw [hW2];simp
  have HW2:=Lib.hid hW2
  have HROW:=Lib.hid hrow2
  have HB3:=Lib.hid hB2'
  clear hW2 hrow2 hB2' q0 hfz
  go_upto_region 5 with fail
  rw [←HW2.out]
  go_wp2_with fail
  obtain ⟨W4,hW4⟩:∃ W,W=(((W2.setCell ⟨w.heap.size,0,none⟩ (.int .i64 (md:Int))).setCell ⟨w.heap.size,1,none⟩ (.int .i64 (mr:Int))).setCell ⟨w.heap.size,2,none⟩ (.int .i64 (ma:Int))).setCell ⟨w.heap.size,3,none⟩ (.int .i64 (mp:Int)):=⟨_,rfl⟩
  have hB4:=below_set4 HB3.out (Nat.le_refl _) hW4
  obtain ⟨e0,e1,e2,e3⟩:=set4 HROW.out _ _ _ _ hW4
  rw [←hW4]
  refine bodyPost_ret (v:=.tuple #[.agg #[.int .i64 (md:Int),.int .i64 (mr:Int),.int .i64 (ma:Int),.int .i64 (mp:Int)],.int .i64 0]) ?_ rfl ⟨rfl,hB4⟩
  clear hW4 hB4 r0 r1 r2 r3 f0 f1 f2 f3 s0 s1 s2 s3 hlt
  simp [results,Tryz.results208,go_sem,e0,e1,e2,e3]
end
end Go.Proofs.YtajmeimjaapagaaGreatDoor
namespace Go.Proofs.YtajmeimjaapagaaGreatDoor
open Go.RowKit Go.Deep
attribute [local go_sem] fr_opt
def ChainTo (w:World) (c:List MkM) (e:Ending) (w':World):Prop:=∃ v,e = .returned (.tuple #[v,.int .i64 0])∧MRow w' v c∧Below w.heap.size w w'∧∀ q,v.ownBlock=some q→w.heap.size≤q
theorem menc_at (m:MkM) {W:World} {b o:Nat} (h:∀ j u,(menc m)[j]? = some u→W.cell? ⟨b,o+j,none⟩=some u) :
 W.cell? ⟨b,o,none⟩=some (.int .i64 m.due)∧W.cell? ⟨b,o+1,none⟩=some (.int .i64 m.rc)∧W.cell? ⟨b,o+2,none⟩=some (.int .i64 m.ah)∧W.cell? ⟨b,o+3,none⟩=some (.int .i64 m.ps):=
 ⟨h 0 _ rfl,h 1 _ rfl,h 2 _ rfl,h 3 _ rfl⟩
theorem menc_made (m:MkM) (W:World):∀ j u,(menc m)[j]? = some u→(W.alloc (.cells #[.int .i64 m.due,.int .i64 m.rc,.int .i64 m.ah,.int .i64 m.ps] 89)).cell? ⟨W.heap.size,j,none⟩=some u:=fun j u hu=>by
 match j with
 | 0=>simp [menc] at hu;subst hu;simp
 | 1=>simp [menc] at hu;subst hu;simp
 | 2=>simp [menc] at hu;subst hu;simp
 | 3=>simp [menc] at hu;subst hu;simp
 | j+4=>simp [menc] at hu
section
variable {w0 w w':World} {lb wb:Nat} {g:Gh} {st:St} {n:Nat} {hd:Int} {L:List Nat} {ms:List MkM}
set_option maxHeartbeats 4000000 in
set_option maxRecDepth 100000 in
theorem chain_any (h:LgI w0 w lb wb g st n hd L ms) (s:Nat) (hs:s<16) (c:List MkM) (hc:ChainB ms (L.getD s 0) c.reverse) :
 Calls Tryz.prog 176 #[.pointer (some ⟨lb,0,none⟩),.int .i64 (s:Int)] w (ChainTo w c):=by
 obtain ⟨c0,_,_⟩:=h.cells
 have hH:=whead_any h.wh (s:Int)
 rw [show wHeadV L (s:Int)=L.getD s 0 from by unfold wHeadV;rw [if_neg (by omega),Int.toNat_natCast],show wHeadE (s:Int)=0 from by unfold wHeadE;rw [if_neg (by omega)]] at hH
 have hcnt:=h.count
 obtain ⟨n0,hn0⟩:∃ n0,n0=L.getD s 0:=⟨_,rfl⟩
 rw [←hn0] at hH hc
 have hMK:∀ W,Below w.heap.size w W→∀ (k:Nat) (m:MkM),ms[k]? = some m→Calls Tryz.prog 208 #[.pointer (some ⟨lb,0,none⟩),.int .i64 ((k:Int)+1)] W fun e w'=>e = .returned (.tuple #[mkV m,.int .i64 0])∧Below W.heap.size W w':=fun W hW k m hm=>mark_any (h.new (Chg.of_below hW)) k m hm
 have hle:=hc.le
 have HH:=Lib.hid hH
 have HMK:=Lib.hid hMK
 have HC:=Lib.hid hc
 have HCNT:Hid (n0≤838860∧c.reverse.length≤838860):=Lib.hid ⟨by omega,by omega⟩
 obtain ⟨S,hS⟩:∃ S:Int,S=(s:Int):=⟨_,rfl⟩
 rw [←hS] at HH ⊢
 obtain ⟨B,hB⟩:∃ B,B=c.reverse:=⟨_,rfl⟩
 have HCB:Hid (c=B.reverse):=Lib.hid (by rw [hB,List.reverse_reverse])
 rw [←hB] at HC HCNT
 clear h hH hcnt hn0 hMK hS hs hB hc hle
 go_enter Tryz.func176,Tryz.ntmps176
 go_wp2_with fail
 refine HH.out.mono ?_
 rintro e w1 ⟨rfl,hb1⟩
 have HB1:=Lib.hid hb1
 clear hb1
 go_wp2_with fail
 go_loopw [6,8] (fun i v wr=>∃ (x:Nat) (dn rs:List MkM) (a:Option Addr) (cp:Nat),B=dn ++ rs∧i = .int .i64 (x:Int)∧v = .slice a dn.length cp∧Hid (ChainB ms x rs)∧Hid (MRow wr v dn)∧Hid (Below w.heap.size w wr)∧Hid (∀ q,v.ownBlock=some q→w.heap.size≤q)) (fun i _ _=>(intOf i).toNat)
 case atStart=>exact ⟨n0,[],B,none,0,rfl,rfl,rfl,HC,Lib.hid (GRow.nil _),HB1,Lib.hid (fun q hq=>by cases hq)⟩
 case round=>
  obtain ⟨x,dn,rs,a,cp,hB,rfl,rfl,HCx,HV,HBr,HO⟩:=hrel
  by_cases hx:0<x
  ·cases rs with
   | nil=>exact absurd HCx.out (by intro hz;have hz:x=0:=hz;omega)
   | cons m rs=>
   obtain ⟨_,hm,hah,hcr⟩:=HCx.out
   obtain ⟨k,rfl⟩:∃ k,x=k+1:=⟨x - 1,by omega⟩
   rw [Nat.add_sub_cancel] at hm
   have hM:=HMK.out wr HBr.out k m hm
   have hdl:dn.length≤838860:=by
    have h1:=HCNT.out.2
    rw [hB,List.length_append] at h1
    omega
   have hx1:(0:Int)<((k+1:Nat):Int):=by omega
   rw [show ((k:Int)+1)=((k+1:Nat):Int) by omega] at hM
   obtain ⟨X,hX⟩:∃ X:Int,X=((k+1:Nat):Int):=⟨_,rfl⟩
   have hlt1:¬ X≤(m.ah:Int):=by omega
   have hlt2:decide (X≤(m.ah:Int))=false:=decide_eq_false hlt1
   have HB':=Lib.hid hB
   have HCR:=Lib.hid hcr
   have HAH:Hid (m.ah<k+1):=Lib.hid hah
   have HM:=Lib.hid hM
   have HX:=Lib.hid hX
   rw [←hX] at HM hx1 ⊢
   clear hx hm hM hah hcr hB hX
   go_wp2_with fail
   refine HM.out.mono ?_
   rintro e w2 ⟨rfl,hb2⟩
   have hcm:Chg (fun _=>False) wr w2:=Chg.of_below hb2
   have hV2:=HV.out.new hcm
   obtain ⟨Y,hY⟩:∃ Y,Y=w2.heap.size:=⟨_,rfl⟩
   obtain ⟨W3,hW3⟩:∃ W,W=w2.alloc (.cells #[.int .i64 m.due,.int .i64 m.rc,.int .i64 m.ah,.int .i64 m.ps] 89):=⟨_,rfl⟩
   have hb3:Below w2.heap.size w2 W3:=hW3▸(Below.refl _ _).alloc (Nat.le_refl _) _
   have hs3:W3.heap.size=Y+1:=by rw [hW3,World.size_alloc,hY]
   have hy3:∀ j u,(menc m)[j]? = some u→W3.cell? ⟨Y,j,none⟩=some u:=by rw [hW3,hY];exact menc_made m w2
   obtain ⟨W4,hW4⟩:∃ W,W=W3.alloc (.cells #[.int .i64 m.due,.int .i64 m.rc,.int .i64 m.ah,.int .i64 m.ps] 89):=⟨_,rfl⟩
   have hb4:Below W3.heap.size W3 W4:=hW4▸(Below.refl _ _).alloc (Nat.le_refl _) _
   have hs4:W4.heap.size=Y+2:=by rw [hW4,World.size_alloc,hs3]
   have hy4:∀ j u,(menc m)[j]? = some u→W4.cell? ⟨Y+1,j,none⟩=some u:=by rw [hW4,←hs3];exact menc_made m W3
   have hy34:∀ j u,(menc m)[j]? = some u→W4.cell? ⟨Y,j,none⟩=some u:=fun j u hu=>(hb4.cell (p:=⟨Y,j,none⟩) (by show Y<_;omega)).trans (hy3 j u hu)
   obtain ⟨v',w5,hrun,hA⟩:=gapp_g layM (w:=W4) m (q:=Y+1) (c:=1) ((hV2.new (Chg.of_below hb3)).new (Chg.of_below hb4)) (by omega) hy4 144
   have hvlt:∀ q,(Value.slice a dn.length cp).ownBlock=some q→q<Y:=fun q hq=>by rw [hY];exact hV2.lt q hq
   have hy5:∀ j u,(menc m)[j]? = some u→w5.cell? ⟨Y,j,none⟩=some u:=fun j u hu=>by
    refine (Chg.of_grown (S:=fun q=>some q=(Value.slice a dn.length cp).ownBlock) hA.grown (fun q hq _=>hq.symm)).cell (hy34 j u hu) (fun hq=>?_)
    have:=hvlt Y hq.symm
    omega
   have hbb:Below w.heap.size w W4:=HBr.out.trans ((hb2.trans ((hb3.trans (hb4.mono (by rw [hs3];omega))).mono hb2.size)).mono HBr.out.size)
   have hb5:Below w.heap.size w w5:=by
    refine hbb.trans ((Chg.of_grown (S:=fun q=>some q=(Value.slice a dn.length cp).ownBlock) hA.grown (fun q hq _=>hq.symm)).below (fun q _ hq=>?_) hbb.size)
    exact HO.out q hq.symm
   have hO5:∀ q,v'.ownBlock=some q→w.heap.size≤q:=fun q hq=>by
    rcases hA.own with e1|e1
    ·exact HO.out q (by rw [←e1];exact hq)
    ·rw [e1] at hq
     injection hq with hq
     have h1:=HBr.out.size
     have h2:=hb2.size
     omega
   obtain ⟨a',cp',hv'⟩:=hA.row.len layM
   rw [show (dn ++ [m]).length=dn.length+1 by rw [List.length_append];rfl] at hv'
   subst hv'
   have j0:=(menc_at m (o:=0) (by simpa using hy3)).1
   obtain ⟨j0,j1,j2,j3⟩:=menc_at m (o:=0) (W:=W3) (b:=Y) (by simpa using hy3)
   obtain ⟨_,_,k2,_⟩:=menc_at m (o:=0) (W:=w5) (b:=Y) (by simpa using hy5)
   have HRUN:=Lib.hid hrun
   have HR5:=Lib.hid hA.row
   have HB5:=Lib.hid hb5
   have HO5:=Lib.hid hO5
   have HW3:=Lib.hid hW3
   have HW4:=Lib.hid hW4
   have HY:=Lib.hid hY
   have HS3:=Lib.hid hs3
   obtain ⟨md,mr,ma,mp⟩:=m
   dsimp only at j0 j1 j2 j3 k2 HW3 HW4 hlt1 hlt2 HAH HCR
   unfold mkV
   dsimp only
   simp only [Nat.zero_add] at j1 j2 j3 k2
   clear hb2 hcm hV2 hY hW3 hb3 hy3 hW4 hb4 hs4 hy4 hy34 hrun hA hvlt hy5 hbb hb5 hO5 hs3
   go_upto_region 9 with fail
   rw [←HW3.out,←HY.out]
   go_upto_region 12 with (at_builtin;rw [←HW4.out,HS3.out];refine Lib.wpList_append_run _ rfl _ _ _ _ rfl _ _ rfl rfl _ _ HRUN.out ?_)
   go_wp2_with fail
   exact ⟨⟨ma,dn ++ [⟨md,mr,ma,mp⟩],rs,a',cp',by rw [HB'.out,List.append_assoc];rfl,rfl,by rw [List.length_append];rfl,HCR,HR5,HB5,HO5⟩,by simp [intOf,HX.out];have:=HAH.out;omega⟩
  ·obtain rfl:x=0:=by omega
   cases rs with
   | cons m rs=>exact absurd HCx.out.1 (by decide)
   | nil=>
   have hdn:dn=B:=by rw [hB,List.append_nil]
   subst hdn
   clear hB hx
   have HRV:=Lib.hid (rev_any _ _ wr HV.out)
   go_wp2_with fail
   refine HRV.out.mono ?_
   rintro e w2 ⟨rfl,hr,hg⟩
   have hb:Below w.heap.size w w2:=HBr.out.trans ((Chg.of_grown (S:=fun q=>some q=(Value.slice a dn.length cp).ownBlock) hg (fun q hq _=>hq.symm)).below (fun q _ hq=>HO.out q hq.symm) HBr.out.size)
   have HFIN:Hid (ChainTo w c (.returned (.tuple #[.slice a dn.length cp,.int .i64 0])) w2):=Lib.hid ⟨_,rfl,by rw [HCB.out];exact hr,hb,HO.out⟩
   clear hr hg hb
   go_wp2_with fail
   go_ret2
   exact HFIN.out
end
end Go.Proofs.YtajmeimjaapagaaGreatDoor
namespace Go.Proofs.YtajmeimjaapagaaGreatDoor
open Go.RowKit Go.Deep
attribute [local go_sem] fr_opt
def dueL (c:List MkM) (s:Int):List MkM:=c.filter fun m=>!decide (s<(m.due:Int))
def farL (c:List MkM) (s:Int):List MkM:=c.filter fun m=>decide (s<(m.due:Int))
def PartTo (w:World) (c:List MkM) (s:Int) (e:Ending) (w':World):Prop:=∃ v1 v2,e = .returned (.tuple #[v1,v2])∧MRow w' v1 (dueL c s)∧MRow w' v2 (farL c s)∧Below w.heap.size w w'∧(∀ q,v1.ownBlock=some q→w.heap.size≤q)∧∀ q,v2.ownBlock=some q→w.heap.size≤q
theorem ltake_step {α:Type} {c:List α} {k:Nat} {m:α} (h:c[k]? = some m):c.take (k+1)=c.take k ++ [m]:=by
 rw [List.take_add_one,h];rfl
set_option maxHeartbeats 4000000 in
set_option maxRecDepth 100000 in
theorem part_any (v:Value) (c:List MkM) (s:Int) (w:World) (h:MRow w v c) (hl:c.length≤838860) :
 Calls Tryz.prog 177 #[v,.int .i64 s] w (PartTo w c s):=by
 obtain ⟨a,cap,rfl⟩:=h.len layM
 have hcell:∀ W,Below w.heap.size w W→∀ k m,c[k]? = some m→∃ b,a=some ⟨b,0,none⟩∧W.cell? ⟨b,k*4,none⟩=some (.int .i64 m.due)∧W.cell? ⟨b,k*4+1,none⟩=some (.int .i64 m.rc)∧W.cell? ⟨b,k*4+2,none⟩=some (.int .i64 m.ah)∧W.cell? ⟨b,k*4+3,none⟩=some (.int .i64 m.ps):=fun W hW k m hm=>by
  obtain ⟨b,e1,e2⟩:=(h.new (Chg.of_below hW)).at_ layM hm
  exact ⟨b,e1,menc_at m e2⟩
 have HC:=Lib.hid hcell
 obtain ⟨N,hN⟩:∃ N,N=c.length:=⟨_,rfl⟩
 have HN:=Lib.hid hN
 rw [←hN] at hl ⊢
 clear h hcell hN
 go_enter Tryz.func177,Tryz.ntmps177
 go_wp2_with fail
 go_loopw [4,5,10] (fun v1 v2 i wr=>∃ (k:Nat) (a1 a2:Option Addr) (l1 l2 c1 c2:Nat),k≤N∧i = .int .i64 (k:Int)∧v1 = .slice a1 l1 c1∧v2 = .slice a2 l2 c2∧Hid (MRow wr v1 (dueL (c.take k) s))∧Hid (MRow wr v2 (farL (c.take k) s))∧Hid (Below w.heap.size w wr)∧Hid (∀ q,v1.ownBlock=some q→w.heap.size≤q)∧Hid (∀ q,v2.ownBlock=some q→w.heap.size≤q)∧Hid (∀ q,v1.ownBlock=some q→v2.ownBlock≠some q)) (fun _ _ i _=>N - (intOf i).toNat)
 case atStart=>exact ⟨0,none,none,0,0,0,0,Nat.zero_le _,rfl,rfl,rfl,Lib.hid (GRow.nil _),Lib.hid (GRow.nil _),Lib.hid (Below.refl _ _),Lib.hid (fun q hq=>by cases hq),Lib.hid (fun q hq=>by cases hq),Lib.hid (fun q hq=>by cases hq)⟩
 case round=>
  obtain ⟨k,a1,a2,l1,l2,c1,c2,hk,rfl,rfl,rfl,HR1,HR2,HB,HO1,HO2,HAP⟩:=hrel
  by_cases hlt:k<N
  ·have hlt':(k:Int)<(N:Int):=by omega
   obtain ⟨m,hm⟩:∃ m,c[k]? = some m:=⟨_,List.getElem?_eq_getElem (by rw [←HN.out];exact hlt)⟩
   obtain ⟨b,rfl,b0,b1,b2,b3⟩:=HC.out wr HB.out k m hm
   have htk:=ltake_step hm
   have hl1:(dueL (c.take k) s).length≤838860:=Nat.le_trans (List.length_filter_le _ _) (by rw [List.length_take];omega)
   have hl2:(farL (c.take k) s).length≤838860:=Nat.le_trans (List.length_filter_le _ _) (by rw [List.length_take];omega)
   obtain ⟨Y,hY⟩:∃ Y,Y=wr.heap.size:=⟨_,rfl⟩
   obtain ⟨W3,hW3⟩:∃ W,W=wr.alloc (.cells #[.int .i64 m.due,.int .i64 m.rc,.int .i64 m.ah,.int .i64 m.ps] 89):=⟨_,rfl⟩
   have hb3:Below wr.heap.size wr W3:=hW3▸(Below.refl _ _).alloc (Nat.le_refl _) _
   have hs3:W3.heap.size=Y+1:=by rw [hW3,World.size_alloc,hY]
   have hy3:∀ j u,(menc m)[j]? = some u→W3.cell? ⟨Y,j,none⟩=some u:=by rw [hW3,hY];exact menc_made m wr
   obtain ⟨W4,hW4⟩:∃ W,W=W3.alloc (.cells #[.int .i64 m.due,.int .i64 m.rc,.int .i64 m.ah,.int .i64 m.ps] 89):=⟨_,rfl⟩
   have hb4:Below W3.heap.size W3 W4:=hW4▸(Below.refl _ _).alloc (Nat.le_refl _) _
   have hs4:W4.heap.size=Y+2:=by rw [hW4,World.size_alloc,hs3]
   have hy4:∀ j u,(menc m)[j]? = some u→W4.cell? ⟨Y+1,j,none⟩=some u:=by rw [hW4,←hs3];exact menc_made m W3
   have hbr4:Below wr.heap.size wr W4:=hb3.trans (hb4.mono (by rw [hs3];omega))
   have hbb:Below w.heap.size w W4:=HB.out.trans (hbr4.mono HB.out.size)
   have r1:=HR1.out.new (Chg.of_below hbr4)
   have r2:=HR2.out.new (Chg.of_below hbr4)
   obtain ⟨j0,j1,j2,j3⟩:=menc_at m (o:=0) (W:=W3) (b:=Y) (by simpa using hy3)
   simp only [Nat.zero_add] at j1 j2 j3
   by_cases hd:s<(m.due:Int)
   ·have hd':decide (s<(m.due:Int))=true:=decide_eq_true hd
    obtain ⟨v',w5,hrun,hA⟩:=gapp_g layM (w:=W4) m (q:=Y+1) (c:=1) r2 (by omega) hy4 144
    have hlt1:∀ q,(Value.slice a2 l2 c2).ownBlock=some q→q<Y:=fun q hq=>by rw [hY];exact HR2.out.lt q hq
    have hg:=Chg.of_grown (S:=fun q=>some q=(Value.slice a2 l2 c2).ownBlock) hA.grown (fun q hq _=>hq.symm)
    have hb5:Below w.heap.size w w5:=hbb.trans (hg.below (fun q _ hq=>HO2.out q hq.symm) hbb.size)
    have hr5:=r1.chg hg (fun q hq hx=>HAP.out q hq hx.symm)
    have hown:∀ q,v'.ownBlock=some q→(Value.slice a2 l2 c2).ownBlock=some q∨q=Y+2:=fun q hq=>by
     rcases hA.own with e1|e1
     ·exact .inl (by rw [←e1];exact hq)
     ·rw [e1,hs4] at hq
      injection hq with hq
      exact .inr hq.symm
    have hO5:∀ q,v'.ownBlock=some q→w.heap.size≤q:=fun q hq=>by
     rcases hown q hq with e1|e1
     ·exact HO2.out q e1
     ·have h1:=HB.out.size
      omega
    have hAP5:∀ q,(Value.slice a1 l1 c1).ownBlock=some q→v'.ownBlock≠some q:=fun q hq hx=>by
     rcases hown q hx with e1|e1
     ·exact HAP.out q hq e1
     ·have h1:=HR1.out.lt q hq
      omega
    have e1:dueL (c.take (k+1)) s=dueL (c.take k) s:=by rw [htk];unfold dueL;rw [List.filter_append];simp [hd]
    have e2:farL (c.take (k+1)) s=farL (c.take k) s ++ [m]:=by rw [htk];unfold farL;rw [List.filter_append];simp [hd]
    obtain ⟨a',cp',hv'⟩:=hA.row.len layM
    obtain ⟨l',hl'⟩:∃ l',l'=(farL (c.take k) s ++ [m]).length:=⟨_,rfl⟩
    rw [←hl'] at hv'
    subst hv'
    have HRUN:=Lib.hid hrun
    have HF1:Hid (MRow w5 (.slice a1 l1 c1) (dueL (c.take (k+1)) s)):=Lib.hid (by rw [e1];exact hr5)
    have HF2:Hid (MRow w5 (.slice a' l' cp') (farL (c.take (k+1)) s)):=Lib.hid (by rw [e2];exact hA.row)
    have HB5:=Lib.hid hb5
    have HO5:=Lib.hid hO5
    have HAP5:=Lib.hid hAP5
    have HW3:=Lib.hid hW3
    have HW4:=Lib.hid hW4
    have HY:=Lib.hid hY
    have HS3:=Lib.hid hs3
    obtain ⟨md,mr,ma,mp⟩:=m
    dsimp only at j0 j1 j2 j3 HW3 HW4 hd hd' b0 b1 b2 b3
    clear hm htk hl1 hl2 hY hW3 hb3 hs3 hy3 hW4 hb4 hs4 hy4 hbr4 hbb r1 r2 hrun hA hlt1 hg hb5 hr5 hown hO5 hAP5 e1 e2 hl' hlt
    go_upto_region 4 with fail
    rw [←HW3.out,←HY.out]
    go_wp2_with (at_builtin;rw [←HW4.out,HS3.out];refine Lib.wpList_append_run _ rfl _ _ _ _ rfl _ _ rfl rfl _ _ HRUN.out ?_)
    go_wp2_with fail
    exact ⟨⟨k+1,a1,a',l1,l',c1,cp',by omega,by go_num,rfl,rfl,HF1,HF2,HB5,HO1,HO5,HAP5⟩,by simp [intOf];omega⟩
   ·have hd':decide (s<(m.due:Int))=false:=decide_eq_false hd
    obtain ⟨v',w5,hrun,hA⟩:=gapp_g layM (w:=W4) m (q:=Y+1) (c:=1) r1 (by omega) hy4 144
    have hlt1:∀ q,(Value.slice a1 l1 c1).ownBlock=some q→q<Y:=fun q hq=>by rw [hY];exact HR1.out.lt q hq
    have hg:=Chg.of_grown (S:=fun q=>some q=(Value.slice a1 l1 c1).ownBlock) hA.grown (fun q hq _=>hq.symm)
    have hb5:Below w.heap.size w w5:=hbb.trans (hg.below (fun q _ hq=>HO1.out q hq.symm) hbb.size)
    have hr5:=r2.chg hg (fun q hq hx=>HAP.out q hx.symm hq)
    have hown:∀ q,v'.ownBlock=some q→(Value.slice a1 l1 c1).ownBlock=some q∨q=Y+2:=fun q hq=>by
     rcases hA.own with e1|e1
     ·exact .inl (by rw [←e1];exact hq)
     ·rw [e1,hs4] at hq
      injection hq with hq
      exact .inr hq.symm
    have hO5:∀ q,v'.ownBlock=some q→w.heap.size≤q:=fun q hq=>by
     rcases hown q hq with e1|e1
     ·exact HO1.out q e1
     ·have h1:=HB.out.size
      omega
    have hAP5:∀ q,v'.ownBlock=some q→(Value.slice a2 l2 c2).ownBlock≠some q:=fun q hx hq=>by
     rcases hown q hx with e1|e1
     ·exact HAP.out q e1 hq
     ·have h1:=HR2.out.lt q hq
      omega
    have e1:dueL (c.take (k+1)) s=dueL (c.take k) s ++ [m]:=by rw [htk];unfold dueL;rw [List.filter_append];simp [hd]
    have e2:farL (c.take (k+1)) s=farL (c.take k) s:=by rw [htk];unfold farL;rw [List.filter_append];simp [hd]
    obtain ⟨a',cp',hv'⟩:=hA.row.len layM
    obtain ⟨l',hl'⟩:∃ l',l'=(dueL (c.take k) s ++ [m]).length:=⟨_,rfl⟩
    rw [←hl'] at hv'
    subst hv'
    have HRUN:=Lib.hid hrun
    have HF2:Hid (MRow w5 (.slice a2 l2 c2) (farL (c.take (k+1)) s)):=Lib.hid (by rw [e2];exact hr5)
    have HF1:Hid (MRow w5 (.slice a' l' cp') (dueL (c.take (k+1)) s)):=Lib.hid (by rw [e1];exact hA.row)
    have HB5:=Lib.hid hb5
    have HO5:=Lib.hid hO5
    have HAP5:=Lib.hid hAP5
    have HW3:=Lib.hid hW3
    have HW4:=Lib.hid hW4
    have HY:=Lib.hid hY
    have HS3:=Lib.hid hs3
    obtain ⟨md,mr,ma,mp⟩:=m
    dsimp only at j0 j1 j2 j3 HW3 HW4 hd hd' b0 b1 b2 b3
    clear hm htk hl1 hl2 hY hW3 hb3 hs3 hy3 hW4 hb4 hs4 hy4 hbr4 hbb r1 r2 hrun hA hlt1 hg hb5 hr5 hown hO5 hAP5 e1 e2 hl' hlt
    go_upto_region 4 with fail
    rw [←HW3.out,←HY.out]
    go_wp2_with (at_builtin;rw [←HW4.out,HS3.out];refine Lib.wpList_append_run _ rfl _ _ _ _ rfl _ _ rfl rfl _ _ HRUN.out ?_)
    go_wp2_with fail
    exact ⟨⟨k+1,a',a2,l',l2,cp',c2,by omega,by go_num,rfl,rfl,HF1,HF2,HB5,HO5,HO2,HAP5⟩,by simp [intOf];omega⟩
  ·obtain rfl:N=k:=by omega
   have htk:c.take N=c:=by rw [HN.out];exact List.take_length
   have HFIN:Hid (PartTo w c s (.returned (.tuple #[.slice a1 l1 c1,.slice a2 l2 c2])) wr):=Lib.hid ⟨_,_,rfl,by rw [←htk];exact HR1.out,by rw [←htk];exact HR2.out,HB.out,HO1.out,HO2.out⟩
   clear htk
   go_wp2_with fail
   go_ret2
   exact HFIN.out
end Go.Proofs.YtajmeimjaapagaaGreatDoor
namespace Go.Proofs.YtajmeimjaapagaaGreatDoor
open Go.RowKit Go.Deep
attribute [local go_sem] fr_opt
theorem blen_any (B b:Nat) (bs:List Value) (w:World) (h:BldIs B b bs w) :
 Calls Tryz.prog 80 #[.pointer (some ⟨b,0,none⟩)] w fun e w'=>e = .returned (.int .i64 (bs.length:Nat))∧w=w':=by
 have:∃ a cap,w.cell? ⟨b,1,none⟩=some (.slice a bs.length cap):=by
  rcases h with ⟨hB,v,hbk,hown,hne⟩|⟨hB,v,hbk,hown,hne⟩<;>
  ·have c1:w.cell? ⟨b,1,none⟩=some v:=by rw [Lib.cell_of_heap hbk];rfl
   rcases hown.2 with ⟨hv,h0⟩|⟨g,cap,cur,hv,_⟩
   ·exact ⟨none,0,by rw [c1,hv,h0]⟩
   ·exact ⟨_,cap,by rw [c1,hv]⟩
 obtain ⟨a,cap,c1⟩:=this
 obtain ⟨k,hk⟩:∃ k,k=bs.length:=⟨_,rfl⟩
 rw [←hk] at c1 ⊢
 clear h hk
 go_enter Tryz.func80,Tryz.ntmps80
 go_wp2_with fail
 go_ret
 exact ⟨rfl,rfl⟩
structure LTo (lb wb:Nat) (w:World) (g g':Gh) (w':World):Prop where
 chg:Chg (fun q=>q=lb∨q=wb∨q∈g.fp) w w'
 fp:∀ q∈g'.fp,q∈g.fp∨w.heap.size≤q
 d:g'.d=g.d
theorem LTo.of {lb wb:Nat} {w:World} {g g':Gh} {w':World} (h:Gh.To w g g' w'):LTo lb wb w g g' w':=⟨h.chg.wide (fun _ _ x=>.inr (.inr x)),h.fp,h.d⟩
theorem LTo.new {lb wb:Nat} {w w':World} (g:Gh) (hc:Chg (fun _=>False) w w'):LTo lb wb w g g w':=⟨hc.wide (fun _ _ x=>x.elim),fun _ h=>.inl h,rfl⟩
theorem LTo.trans {lb wb:Nat} {w w1 w2:World} {g g1 g2:Gh} (h:LTo lb wb w g g1 w1) (k:LTo lb wb w1 g1 g2 w2):LTo lb wb w g g2 w2:=by
 have hs:=h.chg.size
 refine ⟨h.chg.trans k.chg (fun i hi hx=>?_),fun i hi=>?_,k.d.trans h.d⟩
 ·rcases hx with hx|hx|hx
  ·exact .inl hx
  ·exact .inr (.inl hx)
  ·rcases h.fp i hx with h1|h1
   ·exact .inr (.inr h1)
   ·omega
 ·rcases k.fp i hi with h1|h1
  ·exact h.fp i h1
  ·exact .inr (by omega)
section
variable {w0 w w':World} {lb wb:Nat} {g:Gh} {st:St} {n:Nat} {hd:Int} {L:List Nat} {ms:List MkM}
def AddTo (w0 w:World) (lb wb:Nat) (g:Gh) (st:St) (n:Nat) (hd:Int) (L:List Nat) (ms:List MkM) (e:Ending) (w':World):Prop:=
 e = .returned (.int .i64 0)∧∃ g' st',LgI w0 w' lb wb g' st' n hd L ms∧LTo lb wb w g g' w'∧st'.cap=st.cap
structure MidA (w0 wx:World) (wb:Nat) (g1:Gh) (st1:St) (st:St) (n:Nat) (hd:Int) (L:List Nat) (ms:List MkM):Prop where
 wh:WhI w0 wx wb g1 st1 n hd L
 file:∃ f,st1.find wM=some f∧f.bytes=mksB ms
 size:st1.size=96+20*ms.length
 cap:st1.cap=st.cap
theorem LgI.mid (h:LgI w0 w lb wb g st n hd L ms):MidA w0 w wb g st st n hd L ms:=⟨h.wh,h.file,h.size,rfl⟩
theorem LgI.wrote (h:LgI w0 w lb wb g st n hd L ms) (xs:List MkM) (hx:xs≠[]) (hr:20*(xs.length:Int)≤st.cap - st.size) (hn:n≤900000) :
 ∃ st1,(∀ W,DiskAt W g st→Calls Tryz.prog 81 #[.pointer (some ⟨g.d,0,none⟩),.string wM,.int .i64 ((20*ms.length:Nat):Int),.string ⟨(mksB xs).toArray⟩] W (OpTo g 0 st1 W)) ∧
  ∀ wx g1,DiskAt wx g1 st1→Gh.To w g g1 wx→MidA w0 wx wb g1 st1 st (n+1) hd L (ms ++ xs):=by
 obtain ⟨f,hf,hfb⟩:=h.file
 obtain ⟨s,hsd⟩:∃ s:ByteArray,s=⟨(mksB xs).toArray⟩:=⟨_,rfl⟩
 have hd1:s.data.toList=mksB xs:=by rw [hsd]
 have hz1:s.size=20*xs.length:=by rw [←text_len,hd1,mksB_length]
 have hx0:0<xs.length:=List.length_pos_iff.2 hx
 have hfl:f.bytes.length=20*ms.length:=by rw [hfb,mksB_length]
 have hcnt:=h.count
 have hg:=h.wh.ease.good
 have hmo:Go.Proofs.YtajmeimjaapagaaGreatDoor.more f (20*ms.length) s.size=20*xs.length:=by unfold Go.Proofs.YtajmeimjaapagaaGreatDoor.more;rw [hfl,hz1];omega
 obtain ⟨e1,e2,e3⟩:=ease_writeA h.wh.ease (a:=20*ms.length) (s:=s) hf (by omega) (by rw [hmo];omega) (by omega)
 rw [hmo] at e2
 obtain ⟨st1,hst1⟩:∃ t,t=writeS st wM ((20*ms.length:Nat):Int) s:=⟨_,rfl⟩
 rw [←hst1] at e2 e3
 rw [←hsd]
 refine ⟨st1,fun W hW=>?_,fun wx g1 hd1' ht=>?_⟩
 ·have:=write_any g st wM ((20*ms.length:Nat):Int) s W hW (by decide) hg.fuse (by have:=hg.cap;have:=hg.size;omega) hg.cap hg.size (by have:=hg.turn;omega) (fun f' hf'=>by
   rw [hf] at hf';cases hf'
   exact ⟨by omega,by have:=(hg.file hf).count;omega⟩)
  rw [e1,←hst1] at this
  exact this
 ·have hlt:=h.wh.lt
  have hz0:=h.wh.chg.size
  obtain ⟨f2,hf2,hfb2⟩:=h.wh.file
  refine ⟨⟨hd1',h.wh.chg.trans ht.chg (fun q hq hx=>by have:=h.wh.glow q hx;omega),fun q hq=>?_,e3,?_,h.wh.low,fun hx=>?_,⟨f2,by rw [e2,wfind_other (fun e=>wM_ne e.symm)];exact hf2,hfb2⟩,h.wh.len,h.wh.ok⟩,⟨_,by rw [e2];exact wfind_same hf,?_⟩,?_,by rw [e2]⟩
  ·rcases ht.fp q hq with a|a
   ·exact h.wh.glow q a
   ·omega
  ·rw [ht.d]
   exact ht.chg.heap h.wh.cell h.wh.out
  ·rcases ht.fp wb hx with a|a
   ·exact h.wh.out a
   ·omega
  ·show putB f.bytes (20*ms.length) s.data.toList=_
   rw [hfb,hd1,←mksB_length,wput_end,mksB_app]
  ·rw [e2]
   show st.size+20*xs.length=_
   rw [h.size,List.length_append];omega
theorem MidA.done {wx w5:World} {g1 g5:Gh} {st1 st5:St} {L':List Nat} {m:Nat} {xs:List MkM} (h:LgI w0 w lb wb g st n hd L ms) (hm:MidA w0 wx wb g1 st1 st m hd L (ms ++ xs)) (hw5:WhI w0 w5 wb g5 st5 (m+1) hd L')
 (t1:Gh.To w g g1 wx) (t5:Gh.To wx g1 g5 w5) (c5:st5.cap=st1.cap) (s5:st5.size=st1.size) (f5:∀ nm,nm≠wS→st5.find nm=st1.find nm) (hok:∀ x∈xs,MkOk x) :
 AddTo w0 w lb wb g st (m+1) hd L' (ms ++ xs) (.returned (.int .i64 0)) (w5.setCell ⟨lb,1,none⟩ (.int .i64 ((ms ++ xs).length:Nat)))∧w5.cell? ⟨lb,0,none⟩=some (.pointer (some ⟨wb,0,none⟩))∧w5.cell? ⟨lb,1,none⟩=some (.int .i64 (ms.length:Nat))∧w5.frozen? ⟨lb,1,none⟩=false:=by
 have t:=t1.trans t5
 have hlt:=h.lt
 have hc5:w5.heap[lb]? = _:=t.chg.heap h.cell h.out
 have hout5:lb∉g5.fp:=fun hx=>by
  rcases t.fp lb hx with a|a
  ·exact h.out a
  ·omega
 have hset:Chg (fun q=>q=lb) w5 (w5.setCell ⟨lb,1,none⟩ (.int .i64 ((ms ++ xs).length:Nat))):=Chg.setCell (S:=fun q=>q=lb) (p:=⟨lb,1,none⟩) (Chg.refl _ _) (fun _=>rfl) _
 obtain ⟨f,hf,hfb⟩:=hm.file
 refine ⟨⟨rfl,g5,st5,⟨hw5.chgd hset (fun e=>h.ne e.symm) (fun q hq e=>hout5 (e▸hq)) (fun q hq e=>by have:=h.low;omega),heap_setCell_same w5 lb 1 _ _ _ hc5,h.low,hout5,h.ne,⟨f,by rw [f5 wM wM_ne];exact hf,hfb⟩,fun x hx=>?_,by rw [s5,hm.size]⟩,⟨?_,t.fp,t.d⟩,by rw [c5,hm.cap]⟩,?_,?_,?_⟩
 ·rcases List.mem_append.1 hx with a|a
  ·exact h.ok x a
  ·exact hok x a
 ·exact (LTo.of t).chg.trans hset (fun q _ e=>.inl e)
 ·simp [World.cell?,hc5]
 ·simp [World.cell?,hc5]
 ·simp [World.frozen?,hc5]
end
end Go.Proofs.YtajmeimjaapagaaGreatDoor
namespace Go.Proofs.YtajmeimjaapagaaGreatDoor
open Go.RowKit Go.Deep
attribute [local go_sem] fr_opt
theorem addM_take {xs:List MkM} {k:Nat} {m:MkM} (hm:xs[k]? = some m) (n a:Nat):addM n a (xs.take (k+1))=addM n a (xs.take k) ++ [again (addZ n a (xs.take k)) m]:=by
 rw [ltake_step hm,addM_snoc]
theorem addZ_take {xs:List MkM} {k:Nat} {m:MkM} (hm:xs[k]? = some m) (n a:Nat):addZ n a (xs.take (k+1))=n+(k+1):=by
 have hk:=(List.getElem?_eq_some_iff.1 hm).1
 have hl:(xs.take (k+1)).length=k+1:=by rw [List.length_take];omega
 unfold addZ
 rw [if_neg (fun h=>by rw [h] at hl;cases hl),hl]
theorem bld_new (w:World):BldIs w.heap.size w.heap.size (Lib.byteCells []) (w.alloc (.cells #[.pointer none,.slice none 0 0] 147)):=
 Or.inl ⟨Nat.le_refl _,.slice none 0 0,heap_alloc_new _ _,World.ownsRow_nil _ _ _ _,by simp [Value.ownBlock]⟩
section
variable {w0 w w':World} {lb wb:Nat} {g:Gh} {st:St} {n:Nat} {hd:Int} {L:List Nat} {ms:List MkM}
theorem mark_put (m:MkM) (hm:MkOk m) (W:World):Calls Tryz.prog 78 #[.agg #[.int .i64 (m.due:Nat),.int .i64 (m.rc:Nat),.int .i64 (m.ah:Nat),.int .i64 (m.ps:Nat)]] W fun e w'=>e = .returned (.tuple #[.string ⟨(mkB m).toArray⟩,.bool true])∧Below W.heap.size W w':=by
 have:=markPut_any (m.due:Nat) (m.rc:Nat) (m.ah:Nat) (m.ps:Nat) W
 unfold PutPost at this
 rw [show ([6,6,6,2]:List Nat)=mkW from rfl,show [((m.due:Nat):Int),(m.rc:Nat),(m.ah:Nat),(m.ps:Nat)]=mkI m from rfl,mk_put hm,mk_fit hm] at this
 exact this
set_option maxHeartbeats 8000000 in
set_option maxRecDepth 100000 in
theorem ladd_any (h:LgI w0 w lb wb g st n hd L ms) (hn:n≤899000) (s:Nat) (hs:s<16) (a:Nat) (ha:a≤ms.length) (v:Value) (xs:List MkM) (hv:MRow w v xs) (hok:∀ m∈xs,MkOk m) (hr:20*(xs.length:Int)≤st.cap - st.size) :
 Calls Tryz.prog 39 #[.pointer (some ⟨lb,0,none⟩),.int .i64 (s:Int),.int .i64 (a:Int),v] w (AddTo w0 w lb wb g st (n+2) hd (L.set s (addZ ms.length a xs)) (ms ++ addM ms.length a xs)):=by
 obtain ⟨va,cap,rfl⟩:=hv.len layM
 obtain ⟨n0,hn0⟩:∃ n0,n0=ms.length:=⟨_,rfl⟩
 have hcnt:=h.count
 have hxl:xs.length≤838860:=by have:=h.wh.ease.good.cap;omega
 have hcell:∀ W,Below w.heap.size w W→∀ (k:Nat) (m:MkM),xs[k]? = some m→∃ b,va=some ⟨b,0,none⟩∧W.cell? ⟨b,k*4,none⟩=some (.int .i64 m.due)∧W.cell? ⟨b,k*4+1,none⟩=some (.int .i64 m.rc)∧W.cell? ⟨b,k*4+2,none⟩=some (.int .i64 m.ah)∧W.cell? ⟨b,k*4+3,none⟩=some (.int .i64 m.ps):=fun W hW k m hm=>by
  obtain ⟨b,e1,e2⟩:=(hv.new (Chg.of_below hW)).at_ layM hm
  exact ⟨b,e1,menc_at m e2⟩
 obtain ⟨c0,c1,cz⟩:=h.cells
 obtain ⟨d0,_,_⟩:=h.wh.cells
 rw [←hn0] at c1 ha ⊢
 have hzle:∀ k,k≤xs.length→addZ n0 a (xs.take k)≤n0+k:=fun k hk=>by
  have:=addZ_le (xs.take k) n0 a
  rw [List.length_take] at this
  omega
 -- the end: the slot is set,the marks are counted
 have hset:∀ wx g1 st1,MidA w0 wx wb g1 st1 st (n+1) hd L (ms ++ addM n0 a xs)→Gh.To w g g1 wx →
  Calls Tryz.prog 84 #[.pointer (some ⟨wb,0,none⟩),.int .i64 (s:Int),.int .i64 ((addZ n0 a xs:Nat):Int)] wx fun e w5=>e = .returned (.int .i64 0) ∧
   Hid (AddTo w0 w lb wb g st (n+2) hd (L.set s (addZ n0 a xs)) (ms ++ addM n0 a xs) (.returned (.int .i64 0)) (w5.setCell ⟨lb,1,none⟩ (.int .i64 ((n0+xs.length:Nat):Int)))) ∧
   w5.cell? ⟨lb,0,none⟩=some (.pointer (some ⟨wb,0,none⟩))∧w5.cell? ⟨lb,1,none⟩=some (.int .i64 (n0:Nat))∧w5.frozen? ⟨lb,1,none⟩=false:=fun wx g1 st1 hm t1=>by
  have hz:=hzle xs.length (Nat.le_refl _)
  rw [List.take_length] at hz
  have hE:wSetE (s:Int) ((addZ n0 a xs:Nat):Int)=0:=by unfold wSetE;rw [if_neg (by omega),if_neg (by omega)]
  have hL:wSetL L (s:Int) ((addZ n0 a xs:Nat):Int)=L.set s (addZ n0 a xs):=by unfold wSetL;rw [if_pos hE];simp
  refine (wset_any hm.wh (by omega) (s:Int) _).mono ?_
  rintro e w5 ⟨he,g5,st5,h5,t5,q1,q2,q3⟩
  rw [hE] at he
  rw [hL] at h5
  have:=MidA.done h hm h5 t1 t5 q1 q2 q3 (addM_ok xs n0 a hok (by omega) (by omega))
  rw [List.length_append,addM_length,←hn0] at this
  exact ⟨he,Lib.hid this.1,this.2.1,this.2.2.1,this.2.2.2⟩
 have hwr:xs≠[]→∃ st1,(∀ W,DiskAt W g st→Calls Tryz.prog 81 #[.pointer (some ⟨g.d,0,none⟩),.string wM,.int .i64 ((20*n0:Nat):Int),.string ⟨(mksB (addM n0 a xs)).toArray⟩] W (OpTo g 0 st1 W)) ∧
  ∀ wx g1,DiskAt wx g1 st1→Gh.To w g g1 wx→MidA w0 wx wb g1 st1 st (n+1) hd L (ms ++ addM n0 a xs):=fun hx=>by
  have:=h.wrote (addM n0 a xs) (fun e=>hx (List.length_eq_zero_iff.1 (by rw [←addM_length xs n0 a,e];rfl))) (by rw [addM_length];exact hr) (by omega)
  rw [←hn0] at this
  exact this
 have hno:xs=[]→MidA w0 w wb g st st (n+1) hd L (ms ++ addM n0 a xs):=fun hx=>by
  subst hx
  have:=(h.more (Nat.le_succ n)).mid
  rw [show ms ++ addM n0 a []=ms by simp [addM]]
  exact this
 have hmid:∀ wx,Below w.heap.size w wx→MidA w0 w wb g st st (n+1) hd L (ms ++ addM n0 a xs)→MidA w0 wx wb g st st (n+1) hd L (ms ++ addM n0 a xs):=fun wx hb hm=>⟨hm.wh.new (Chg.of_below hb),hm.file,hm.size,hm.cap⟩
 have hlb:=h.lt
 have hwb:=h.wh.lt
 have HSET:=Lib.hid hset
 have HWR:=Lib.hid hwr
 have HNO:=Lib.hid (fun hx wx hb=>hmid wx hb (hno hx))
 have HC:=Lib.hid hcell
 have HOK:=Lib.hid hok
 have HZ:=Lib.hid hzle
 have HDI:=Lib.hid h.wh.disk
 have HK:Hid (∀ W,Below w.heap.size w W→W.cell? ⟨lb,0,none⟩=some (.pointer (some ⟨wb,0,none⟩))∧W.cell? ⟨lb,1,none⟩=some (.int .i64 (n0:Nat))∧W.cell? ⟨wb,0,none⟩=some (.pointer (some ⟨g.d,0,none⟩))):=Lib.hid (fun W hb=>⟨(hb.cell (p:=⟨lb,0,none⟩) hlb).trans c0,(hb.cell (p:=⟨lb,1,none⟩) hlb).trans c1,(hb.cell (p:=⟨wb,0,none⟩) hwb).trans d0⟩)
 have HKT:Hid (∀ W g',Gh.To w g g' W→W.cell? ⟨lb,0,none⟩=some (.pointer (some ⟨wb,0,none⟩))∧W.cell? ⟨lb,1,none⟩=some (.int .i64 (n0:Nat))∧W.cell? ⟨wb,0,none⟩=some (.pointer (some ⟨g.d,0,none⟩))):=Lib.hid (fun W g' t=>⟨t.chg.cell (p:=⟨lb,0,none⟩) c0 h.out,t.chg.cell (p:=⟨lb,1,none⟩) c1 h.out,t.chg.cell (p:=⟨wb,0,none⟩) d0 h.wh.out⟩)
 have hn38:n0≤838860:=by omega
 obtain ⟨S,hS⟩:∃ S:Int,S=(s:Int):=⟨_,rfl⟩
 rw [←hS] at HSET ⊢
 obtain ⟨N,hN⟩:∃ N,N=xs.length:=⟨_,rfl⟩
 have HN:=Lib.hid hN
 rw [←hN] at hxl HSET ⊢
 have HA:Hid (a≤n0):=Lib.hid ha
 have HLB0:=Lib.hid (And.intro hlb hwb)
 have hst0:=c1
 clear h hn hs ha hv hok hr hn0 hcnt hcell cz hzle hset hwr hno hmid hS hN hlb hwb
 go_enter Tryz.func39,Tryz.ntmps39
 obtain ⟨Bb,hBb⟩:∃ B,B=w.heap.size:=⟨_,rfl⟩
 obtain ⟨W1,hW1⟩:∃ W,W=w.alloc (.cells #[.pointer none,.slice none 0 0] 147):=⟨_,rfl⟩
 have hbl1:BldIs Bb Bb (Lib.byteCells []) W1:=by rw [hBb,hW1];exact bld_new w
 have hb1:Below Bb w W1:=by rw [hBb,hW1];exact (Below.refl _ _).alloc (Nat.le_refl _) _
 have hs1:W1.heap.size=Bb+1:=by rw [hW1,World.size_alloc,hBb]
 have HBL1:=Lib.hid hbl1
 have HB1:=Lib.hid hb1
 have HW1:=Lib.hid hW1
 have HBb:=Lib.hid hBb
 have HS1:=Lib.hid hs1
 have HLB:Hid (lb<Bb∧wb<Bb):=Lib.hid (by rw [hBb];exact HLB0.out)
 obtain ⟨p0,p1,p2⟩:=HK.out W1 (by rw [←hBb];exact hb1)
 clear hbl1 hb1 hW1 hBb hs1 c0 c1 d0 hst0
 go_upto_region 2 with fail
 rw [←HW1.out,←HBb.out]
 go_wp2_with fail
 go_loopw [2,10,23] (fun x y i wr=>∃ (k z:Nat),k≤N∧i = .int .i64 (k:Int)∧x = .int .i64 (z:Int)∧y = .int .i64 ((n0+k:Nat):Int)∧Hid (z=addZ n0 a (xs.take k))∧Hid (BldIs Bb Bb (Lib.byteCells (mksB (addM n0 a (xs.take k)))) wr)∧Hid (Below Bb w wr)∧Hid (Bb<wr.heap.size)) (fun _ _ i _=>N - (intOf i).toNat)
 case atStart=>exact ⟨0,a,Nat.zero_le _,rfl,rfl,rfl,Lib.hid rfl,HBL1,HB1,Lib.hid (by rw [HS1.out];omega)⟩
 case round=>
  obtain ⟨k,z,hk,rfl,rfl,rfl,HZk,HBL,HBr,HLT⟩:=hrel
  by_cases hlt:k<N
  ·have hlt':(k:Int)<(N:Int):=by omega
   obtain ⟨m,hm⟩:∃ m,xs[k]? = some m:=⟨_,List.getElem?_eq_getElem (by rw [←HN.out];exact hlt)⟩
   have hbw:Below w.heap.size w wr:=by rw [←HBb.out];exact HBr.out
   obtain ⟨b,rfl,b0,b1,b2,b3⟩:=HC.out wr hbw k m hm
   have hmk:=HOK.out m (List.mem_of_getElem? hm)
   have hzl:=HZ.out k (by rw [←HN.out];exact hk)
   rw [←HZk.out] at hzl
   have hag:MkOk (again z m):=again_ok hmk (by omega)
   have hsnoc:=addM_take hm n0 a
   have hzz:=addZ_take hm n0 a
   rw [←HZk.out] at hsnoc
   have hblen:(Lib.byteCells (mksB (addM n0 a (xs.take k)))).length+20≤140737488355328:=by
    rw [Lib.byteCells_length,mksB_length,addM_length,List.length_take];omega
   obtain ⟨Q,hQ⟩:∃ Q:Int,Q=(m.ps:Int)+1:=⟨_,rfl⟩
   have e1:IntKind.i64.wrap ((m.ps:Int)+1)=Q:=by rw [hQ,IntWalk.i64_in _ (by have:=hmk.ps;omega)]
   obtain ⟨P,hP⟩:∃ P:Int,P=((again z m).ps:Nat):=⟨_,rfl⟩
   have e2:min Q 65535=P:=by rw [hP,hQ];show _=((min (m.ps+1) 65535:Nat):Int);omega
   have hput:=fun W=>mark_put (again z m) hag W
   have hsz:(⟨(mkB (again z m)).toArray⟩:ByteArray).size=20:=by rw [Oc.size_of',mkB_length]
   obtain ⟨sx,hsx⟩:∃ sx:ByteArray,sx=⟨(mkB (again z m)).toArray⟩:=⟨_,rfl⟩
   rw [←hP,←hsx] at hput
   rw [←hsx] at hsz
   have hput:∀ W,Calls Tryz.prog 78 #[.agg #[.int .i64 (m.due:Nat),.int .i64 (m.rc:Nat),.int .i64 (z:Nat),.int .i64 P]] W fun e w'=>e = .returned (.tuple #[.string sx,.bool true])∧Below W.heap.size W w':=hput
   obtain ⟨Y,hY⟩:∃ Y,Y=wr.heap.size:=⟨_,rfl⟩
   obtain ⟨W3,hW3⟩:∃ W,W=wr.alloc (.cells #[.int .i64 m.due,.int .i64 m.rc,.int .i64 m.ah,.int .i64 m.ps] 89):=⟨_,rfl⟩
   have hb3:Below wr.heap.size wr W3:=hW3▸(Below.refl _ _).alloc (Nat.le_refl _) _
   have hs3:W3.heap.size=Y+1:=by rw [hW3,World.size_alloc,hY]
   have hrow3:W3.rowIs Y 89 4 (fun i=>(menc m).getD i (.int .i64 0)):=by
    rw [hW3,hY]
    exact World.rowIs_alloc wr _ _ _ (fun i hi=>match i,hi with|0,_|1,_|2,_|3,_=>rfl)
   have r3:W3.cell? ⟨Y,3,none⟩=some (.int .i64 m.ps):=hrow3.cell (i:=3) (by decide)
   have r2:W3.cell? ⟨Y,2,none⟩=some (.int .i64 m.ah):=hrow3.cell (i:=2) (by decide)
   have f2:=hrow3.frozen 2
   have f3:=hrow3.frozen 3
   obtain ⟨W5,hW5⟩:∃ W,W=(W3.setCell ⟨Y,2,none⟩ (.int .i64 (z:Int))).setCell ⟨Y,3,none⟩ (.int .i64 P):=⟨_,rfl⟩
   have hrow5:=(hrow3.set 2 (.int .i64 (z:Int))).set 3 (.int .i64 P)
   rw [←hW5] at hrow5
   have t0:W5.cell? ⟨Y,0,none⟩=some (.int .i64 m.due):=by simpa [menc] using hrow5.cell (i:=0) (by decide)
   have t1:W5.cell? ⟨Y,1,none⟩=some (.int .i64 m.rc):=by simpa [menc] using hrow5.cell (i:=1) (by decide)
   have t2:W5.cell? ⟨Y,2,none⟩=some (.int .i64 (z:Int)):=by simpa using hrow5.cell (i:=2) (by decide)
   have t3:W5.cell? ⟨Y,3,none⟩=some (.int .i64 P):=by simpa using hrow5.cell (i:=3) (by decide)
   have hb5:Below wr.heap.size wr W5:=by
    rw [hW5]
    exact (hb3.setCell (by rw [hY];exact Nat.le_refl _) _).setCell (by rw [hY];exact Nat.le_refl _) _
   have HB5:=Lib.hid hb5
   have HW3:=Lib.hid hW3
   have HW5:=Lib.hid hW5
   have HY:=Lib.hid hY
   have HPUT:=Lib.hid hput
   have HSX:=Lib.hid hsx
   have HSZ:=Lib.hid hsz
   have HSN:=Lib.hid hsnoc
   have HZZ:=Lib.hid hzz
   have HBN:=Lib.hid hblen
   have e3:IntKind.i64.wrap (((n0+k:Nat):Int)+1)=((n0+(k+1):Nat):Int):=by rw [IntWalk.i64_in _ (by omega)];omega
   obtain ⟨V,hV⟩:∃ V:Int,V=((n0+k:Nat):Int):=⟨_,rfl⟩
   obtain ⟨V',hV'⟩:∃ V:Int,V=((n0+(k+1):Nat):Int):=⟨_,rfl⟩
   rw [←hV,←hV'] at e3
   rw [←hV]
   have HV':=Lib.hid hV'
   obtain ⟨md,mr,ma,mp⟩:=m
   dsimp only at b0 b1 b2 b3 r2 r3 t0 t1 HW3 e1 HPUT
   clear hm hbw hmk hzl hag hsnoc hzz hblen hQ hP hput hsz hsx hY hW3 hb3 hs3 hrow3 hW5 hrow5 hb5 hlt hV hV'
   go_upto_region 6 with fail
   rw [←HW3.out,←HY.out]
   go_upto_region 8 with fail
   rw [←HW5.out]
   go_wp2_with fail
   refine (HPUT.out _).mono ?_
   rintro e w6 ⟨rfl,hb6⟩
   have hb56:Below wr.heap.size wr w6:=HB5.out.trans (hb6.mono HB5.out.size)
   have HB56:=Lib.hid hb56
   have HBW:=Lib.hid (bwrite_any Bb Bb _ sx w6 (bld_stays HBL.out hb56) (by have:=HBN.out;rw [HSZ.out];exact this) (by have:=HLT.out;have:=hb56.size;omega))
   clear hb6 hb56 t0 t1 t2 t3
   go_wp2_with fail
   refine HBW.out.mono ?_
   rintro e w7 ⟨rfl,hbl7,hb7⟩
   have hB7:Below Bb w w7:=HBr.out.trans ((HB56.out.mono (by have:=HLT.out;omega)).trans hb7)
   have hL7:Bb<w7.heap.size:=by have h1:=HLT.out;have h2:=HB56.out.size;have h3:=hb7.size;omega
   have hbl8:BldIs Bb Bb (Lib.byteCells (mksB (addM n0 a (xs.take (k+1))))) w7:=by
    rw [HSN.out,mksB_app,Lib.byteCells_append]
    rw [HSX.out,Lib.strCells_eq] at hbl7
    simpa [mksB] using hbl7
   have HBL8:=Lib.hid hbl8
   have HB7:=Lib.hid hB7
   have HL7:=Lib.hid hL7
   clear hbl7 hb7 hB7 hL7 hbl8
   go_wp2_with fail
   exact ⟨⟨k+1,n0+(k+1),by omega,by go_num,by rw [HV'.out],by rw [HV'.out],Lib.hid HZZ.out.symm,HBL8,HB7,HL7⟩,by simp [intOf];omega⟩
  ·obtain rfl:N=k:=by omega
   have htk:xs.take N=xs:=by rw [HN.out];exact List.take_length
   have hbl:=HBL.out
   rw [htk] at hbl
   have hz:=HZk.out
   rw [htk] at hz
   have hLen:=blen_any Bb Bb _ wr hbl
   rw [Lib.byteCells_length,mksB_length,addM_length,←HN.out] at hLen
   obtain ⟨sx,hsx⟩:∃ sx:ByteArray,sx=⟨(mksB (addM n0 a xs)).toArray⟩:=⟨_,rfl⟩
   have hSTR:∀ W,Below wr.heap.size wr W→Calls Tryz.prog 83 #[.pointer (some ⟨Bb,0,none⟩)] W fun e w'=>e = .returned (.string sx)∧Below Bb W w':=fun W hW=>by
    have:=Tryz.Builder_String_any Bb Bb _ W (bld_stays hbl hW) (by have:=HLT.out;have:=hW.size;omega)
    rw [←hsx] at this
    exact this
   have hbw:Below w.heap.size w wr:=by rw [←HBb.out];exact HBr.out
   have hwr0:N≠0→∃ st1,(∀ W,DiskAt W g st→Calls Tryz.prog 81 #[.pointer (some ⟨g.d,0,none⟩),.string wM,.int .i64 ((20*n0:Nat):Int),.string sx] W (OpTo g 0 st1 W)) ∧
    ∀ wx g1,DiskAt wx g1 st1→Gh.To w g g1 wx→MidA w0 wx wb g1 st1 st (n+1) hd L (ms ++ addM n0 a xs):=fun hne=>by
    have:=HWR.out (fun e=>hne (by rw [HN.out,e];rfl))
    rw [←hsx] at this
    exact this
   have hno0:N=0→MidA w0 wr wb g st st (n+1) hd L (ms ++ addM n0 a xs):=fun hne=>HNO.out (List.length_eq_zero_iff.1 (by rw [←HN.out];exact hne)) wr hbw
   obtain ⟨D,hD⟩:∃ D:Int,D=((20*N:Nat):Int):=⟨_,rfl⟩
   rw [←hD] at hLen
   rw [←hz] at HSET
   have HZf:=Lib.hid hz
   have HLEN:=Lib.hid hLen
   have HSTR:=Lib.hid hSTR
   have HBW:=Lib.hid hbw
   have HWR0:=Lib.hid hwr0
   have HNO0:=Lib.hid hno0
   have HHD:=Lib.hid hD
   obtain ⟨V,hV⟩:∃ V:Int,V=((n0+N:Nat):Int):=⟨_,rfl⟩
   rw [←hV] at HSET ⊢
   have e4:IntKind.i64.wrap ((n0:Int)+1)=(n0:Int)+1:=IntWalk.i64_in _ (by omega)
   have HPL:Hid (∀ W,Calls Tryz.prog 82 #[.int .i64 ((n0:Int)+1)] W fun e w'=>e = .returned (.int .i64 ((20*n0:Nat):Int))∧W=w'):=Lib.hid (fun W=>lplace_any n0 W (by omega))
   obtain ⟨T,hT⟩:∃ T:Int,T=((20*n0:Nat):Int):=⟨_,rfl⟩
   rw [←hT] at HPL HWR0
   have HPLb:Hid (∀ W,Calls Tryz.prog 82 #[.int .i64 (IntKind.i64.wrap ((n0:Int)+1))] W fun e w'=>e = .returned (.int .i64 T)∧W=w'):=Lib.hid (fun W=>by rw [e4];exact HPL.out W)
   clear htk hbl hz hLen hsx hSTR hbw hwr0 hno0 hD hV hT hlt
   go_wp2_with fail
   refine HLEN.out.mono ?_
   rintro e w8 ⟨rfl,rfl⟩
   go_upto_if 46 with fail
   go_cut [] (fun wx=>∃ g1 st1,Hid (MidA w0 wx wb g1 st1 st (n+1) hd L (ms ++ addM n0 a xs))∧Hid (Gh.To w g g1 wx))
   case first=>
    by_cases h0:N=0
    ·have hD0:D=0:=by rw [HHD.out,h0];rfl
     have HM:=Lib.hid (HNO0.out h0)
     have HG:Hid (Gh.To w g g wr):=Lib.hid (Gh.To.new g (Chg.of_below HBW.out))
     have hD1:¬ 0<D:=by omega
     have hD2:decide (0<D)=false:=decide_eq_false hD1
     clear h0 hD0
     go_wp2_with fail
     go_meet
     exact ⟨g,st,HM,HG⟩
    ·obtain ⟨st1,hw1,hm1⟩:=HWR0.out h0
     have hD1:0<D:=by rw [HHD.out];omega
     have hD2:decide (0<D)=true:=decide_eq_true hD1
     obtain ⟨p0,p1,p2⟩:=HK.out wr HBW.out
     have HWR':Hid (∀ W,Below Bb w W→Calls Tryz.prog 81 #[.pointer (some ⟨g.d,0,none⟩),.string wM,.int .i64 T,.string sx] W (fun e w'=>e = .returned (.int .i64 0)∧(∃ g1,Hid (DiskAt w' g1 st1∧Gh.To w g g1 w'))∧w'.cell? ⟨lb,0,none⟩=some (.pointer (some ⟨wb,0,none⟩))∧w'.cell? ⟨wb,0,none⟩=some (.pointer (some ⟨g.d,0,none⟩))∧w'.cell? ⟨lb,1,none⟩=some (.int .i64 (n0:Nat)))):=Lib.hid (fun W hW=>by
      rw [HBb.out] at hW
      refine (hw1 W (HDI.out.new (Chg.of_below hW))).mono ?_
      rintro e w5 ⟨rfl,g5,hd5,ht5⟩
      have t:=(Gh.To.new g (Chg.of_below hW:Chg (fun _=>False) w W)).trans ht5
      obtain ⟨q0,q1,q2⟩:=HKT.out w5 g5 t
      exact ⟨rfl,⟨g5,Lib.hid ⟨hd5,t⟩⟩,q0,q2,q1⟩)
     have HM1:=Lib.hid hm1
     clear h0 hw1 hm1
     go_upto_region 14 with fail
     go_cut [15] (fun v wx=>v = .int .i64 0∧∃ g1,Hid (DiskAt wx g1 st1∧Gh.To w g g1 wx))
     case first=>
      go_region_held3 (fun w'=>w'.cell? ⟨lb,0,none⟩=some (.pointer (some ⟨wb,0,none⟩))∧w'.cell? ⟨wb,0,none⟩=some (.pointer (some ⟨g.d,0,none⟩))∧w'.cell? ⟨lb,1,none⟩=some (.int .i64 (n0:Nat)))
       (first|exact ⟨p0,p2,p1⟩|go_keep)
       (first
        | (go_at_call 82
           first|refine (HPL.out _).mono ?_|refine (HPLb.out _).mono ?_
           rintro e w2 ⟨rfl,rfl⟩)
        | (go_at_call 83
           refine (HSTR.out _ ?_).mono ?_
           ·repeat (first|exact Below.refl _ _|with_reducible refine Below.drew ?_|with_reducible refine below_drewN ?_ _)
           rintro e w2 ⟨rfl,hb2⟩
           have p0:=(hb2.cell (p:=⟨lb,0,none⟩) HLB.out.1).trans p0
           have p1:=(hb2.cell (p:=⟨lb,1,none⟩) HLB.out.1).trans p1
           have p2:=(hb2.cell (p:=⟨wb,0,none⟩) HLB.out.2).trans p2
           have HB2:=Lib.hid hb2
           clear hb2)
        | (go_at_call 81
           refine (HWR'.out _ ?_).mono ?_
           ·repeat (first|exact HBr.out|with_reducible refine Below.drew ?_|with_reducible refine below_drewN ?_ _|refine Below.trans ?_ HB2.out)
           rintro e w5 ⟨rfl,⟨g5,HFN⟩,p0,p2,p1⟩))
      all_goals
       go_wp2_with fail
       go_meet
       case rel=>exact ⟨rfl,g5,Lib.hid (by first|exact HFN.out|exact ⟨HFN.out.1.new ((Chg.refl _ _).drewN 1),HFN.out.2.trans (Gh.To.new g5 ((Chg.refl _ _).drewN 1))⟩|exact ⟨HFN.out.1.new ((Chg.refl _ _).drewN _),HFN.out.2.trans (Gh.To.new g5 ((Chg.refl _ _).drewN _))⟩)⟩
     case rest=>
      obtain ⟨rfl,g1,HQ⟩:=hcut
      have HM:=Lib.hid (HM1.out wc g1 HQ.out.1 HQ.out.2)
      have HG:=Lib.hid HQ.out.2
      go_wp2_with fail
      go_meet
      exact ⟨g1,st1,HM,HG⟩
   case rest=>
    obtain ⟨g1,st1,HM,HG⟩:=hcut
    have HS:=Lib.hid (HSET.out wc g1 st1 HM.out HG.out)
    obtain ⟨k0,k1,_⟩:=HKT.out wc g1 HG.out
    go_wp2_with fail
    refine HS.out.mono ?_
    rintro e w9 ⟨rfl,HFIN,q0,q1,q2⟩
    go_wp2_with fail
    go_ret
    rw [←HZf.out]
    exact HFIN.out
end
end Go.Proofs.YtajmeimjaapagaaGreatDoor
namespace Go.Proofs.YtajmeimjaapagaaGreatDoor
open Go.RowKit Go.Deep
attribute [local go_sem] fr_opt
def updC (C:Nat→List MkM) (s:Nat) (l:List MkM):Nat→List MkM:=fun t=>if t=s then l else C t
structure LgC (w0 w:World) (lb wb:Nat) (g:Gh) (st:St) (n:Nat) (hd:Int) (L:List Nat) (ms:List MkM) (C:Nat→List MkM):Prop where
 i:LgI w0 w lb wb g st n hd L ms
 chain:∀ s,s<16→ChainB ms (L.getD s 0) (C s).reverse
section
variable {w0 w w':World} {lb wb:Nat} {g:Gh} {st:St} {n:Nat} {hd:Int} {L:List Nat} {ms:List MkM} {C:Nat→List MkM}
theorem LgC.new (h:LgC w0 w lb wb g st n hd L ms C) (hc:Chg (fun _=>False) w w'):LgC w0 w' lb wb g st n hd L ms C:=⟨h.i.new hc,h.chain⟩
theorem LgC.len (h:LgC w0 w lb wb g st n hd L ms C) (s:Nat) (hs:s<16):(C s).length≤838860:=by
 have h1:=(h.chain s hs).le
 rw [List.length_reverse] at h1
 have h2:=h.i.count
 omega
theorem LgC.ok (h:LgC w0 w lb wb g st n hd L ms C) (s:Nat) (hs:s<16):∀ m∈C s,MkOk m:=fun m hm=>h.i.ok m ((h.chain s hs).mem m (List.mem_reverse.2 hm))
theorem lgetD_set {L:List Nat} {s t x:Nat} (hs:s<L.length):(L.set s x).getD t 0=if t=s then x else L.getD t 0:=by
 rw [List.getD_eq_getElem?_getD,List.getElem?_set]
 by_cases h:t=s
 ·subst h
  rw [if_pos rfl,if_pos hs,if_pos rfl];rfl
 ·rw [if_neg (fun e=>h e.symm),if_neg h,List.getD_eq_getElem?_getD]
theorem chains_put {L:List Nat} (hL:L.length=16) (hc:∀ s,s<16→ChainB ms (L.getD s 0) (C s).reverse) (s:Nat) (hs:s<16) (a:Nat) (c:List MkM) (ha:ChainB ms a c.reverse) (xs:List MkM) :
 ∀ t,t<16→ChainB (ms ++ addM ms.length a xs) ((L.set s (addZ ms.length a xs)).getD t 0) (updC C s (c ++ addM ms.length a xs) t).reverse:=fun t ht=>by
 rw [lgetD_set (by rw [hL];exact hs)]
 unfold updC
 by_cases h:t=s
 ·rw [if_pos h,if_pos h,List.reverse_append]
  exact ha.put xs
 ·rw [if_neg h,if_neg h]
  exact (hc t ht).app _
def LTakeTo (w0 w:World) (lb wb:Nat) (g:Gh) (st:St) (n:Nat) (hd:Int) (ms:List MkM) (C:Nat→List MkM) (sec:Nat) (e:Ending) (w':World):Prop:=
 ∃ v g' st' L' ms',e = .returned (.tuple #[v,.int .i64 0])∧LgC w0 w' lb wb g' st' (n+2) hd L' ms' (updC C (sec % 16) (addM ms.length 0 (farL (C (sec % 16)) sec)))∧LTo lb wb w g g' w'∧MRow w' v (dueL (C (sec % 16)) sec)∧ms'.length=ms.length+(farL (C (sec % 16)) sec).length∧st'.cap=st.cap∧∀ q,v.ownBlock=some q→w.heap.size≤q
theorem updC_same (C:Nat→List MkM) (s:Nat):updC C s (C s)=C:=by
 funext t
 unfold updC
 split
 ·rename_i h;rw [h]
 ·rfl
set_option maxHeartbeats 4000000 in
set_option maxRecDepth 100000 in
theorem ltake_any (h:LgC w0 w lb wb g st n hd L ms C) (hn:n≤899000) (sec:Nat) (hsec:sec≤9223372036854775807) (hr:96+20*((ms.length+(farL (C (sec % 16)) sec).length:Nat):Int)≤st.cap) :
 Calls Tryz.prog 130 #[.pointer (some ⟨lb,0,none⟩),.int .i64 (sec:Int)] w (LTakeTo w0 w lb wb g st n hd ms C sec):=by
 have hs16:sec % 16<16:=Nat.mod_lt _ (by decide)
 obtain ⟨s,hs⟩:∃ s,s=sec % 16:=⟨_,rfl⟩
 have hT:LTakeTo w0 w lb wb g st n hd ms C sec=fun e w'=>∃ v g' st' L' ms',e = .returned (.tuple #[v,.int .i64 0])∧LgC w0 w' lb wb g' st' (n+2) hd L' ms' (updC C s (addM ms.length 0 (farL (C s) sec)))∧LTo lb wb w g g' w'∧MRow w' v (dueL (C s) sec)∧ms'.length=ms.length+(farL (C s) sec).length∧st'.cap=st.cap∧∀ q,v.ownBlock=some q→w.heap.size≤q:=by rw [hs];rfl
 rw [hT]
 rw [←hs] at hs16 hr
 have hslot:=fun W=>slot_any (sec:Int) W (Int.natCast_nonneg _)
 rw [show ((sec:Int) % 16)=(s:Int) by omega] at hslot
 have hch:=chain_any h.i s hs16 (C s) (h.chain s hs16)
 have hlen:=h.len s hs16
 have hok:=h.ok s hs16
 obtain ⟨c,hc⟩:∃ c,c=C s:=⟨_,rfl⟩
 rw [←hc] at hch hlen hok hr ⊢
 have hpart:∀ W v,MRow W v c→Calls Tryz.prog 177 #[v,.int .i64 (sec:Int)] W (PartTo W c sec):=fun W v hv=>part_any v c sec W hv hlen
 have hfar:(farL c sec).length≤838860:=Nat.le_trans (List.length_filter_le _ _) hlen
 have hadd:∀ W v,Below w.heap.size w W→MRow W v (farL c sec)→Calls Tryz.prog 39 #[.pointer (some ⟨lb,0,none⟩),.int .i64 (s:Int),.int .i64 0,v] W (AddTo w0 W lb wb g st (n+2) hd (L.set s (addZ ms.length 0 (farL c sec))) (ms ++ addM ms.length 0 (farL c sec))):=fun W v hW hv=>
  ladd_any (h.i.new (Chg.of_below hW)) hn s hs16 0 (Nat.zero_le _) v (farL c sec) hv (fun m hm=>hok m (List.mem_filter.1 hm).1) (by have:=h.i.size;omega)
 have hnone:c=[]→LgC w0 w lb wb g st (n+2) hd L ms (updC C s (addM ms.length 0 (farL c sec))):=fun he=>by
  have e1:addM ms.length 0 (farL c sec)=C s:=by rw [←hc,he];rfl
  rw [e1,updC_same]
  exact ⟨h.i.more (by omega),h.chain⟩
 have hend:∀ W W' v1 v2 a',Below w.heap.size w W→MRow W v1 (dueL c sec)→(∀ q,v1.ownBlock=some q→w.heap.size≤q)→AddTo w0 W lb wb g st (n+2) hd (L.set s (addZ ms.length 0 (farL c sec))) (ms ++ addM ms.length 0 (farL c sec)) a' W' →
  v2=v1→(∃ v g' st' L' ms',(Ending.returned (.tuple #[v2,.int .i64 0])) = .returned (.tuple #[v,.int .i64 0])∧LgC w0 W' lb wb g' st' (n+2) hd L' ms' (updC C s (addM ms.length 0 (farL c sec)))∧LTo lb wb w g g' W'∧MRow W' v (dueL c sec)∧ms'.length=ms.length+(farL c sec).length∧st'.cap=st.cap∧∀ q,v.ownBlock=some q→w.heap.size≤q):=fun W W' v1 v2 a' hW hv hov hA he=>by
  obtain ⟨_,g',st',hi,ht,hcap⟩:=hA
  subst he
  refine ⟨v2,g',st',_,_,rfl,⟨hi,?_⟩,(LTo.new g (Chg.of_below hW)).trans ht,hv.chg ht.chg (fun q hq hx=>?_),by rw [List.length_append,addM_length],hcap,hov⟩
  ·exact chains_put h.i.wh.len h.chain s hs16 0 [] rfl (farL c sec)
  ·have h1:=hov q hq
   rcases hx with hx|hx|hx
   ·have:=h.i.lt;omega
   ·have:=h.i.wh.lt;omega
   ·have:=h.i.wh.disk.lt q hx;omega
 have HSL:=Lib.hid hslot
 have HCH:=Lib.hid hch
 have HPA:=Lib.hid hpart
 have HAD:=Lib.hid hadd
 have HNO:=Lib.hid hnone
 have HEN:=Lib.hid hend
 have HTN:Hid (∀ W,Below w.heap.size w W→LgC w0 w lb wb g st (n+2) hd L ms (updC C s (addM ms.length 0 (farL c sec)))→LgC w0 W lb wb g st (n+2) hd L ms (updC C s (addM ms.length 0 (farL c sec)))):=Lib.hid (fun W hW hx=>hx.new (Chg.of_below hW))
 obtain ⟨S,hS⟩:∃ S:Int,S=(s:Int):=⟨_,rfl⟩
 obtain ⟨X,hX⟩:∃ X:Int,X=(sec:Int):=⟨_,rfl⟩
 have h0:¬ X<0:=by omega
 have h0':decide (X<0)=false:=decide_eq_false h0
 rw [←hS] at HSL HCH HAD
 rw [←hX] at HSL HAD HPA HNO HEN HTN ⊢
 obtain ⟨cl,hcl⟩:∃ cl,cl=c.length:=⟨_,rfl⟩
 have HCL:=Lib.hid hcl
 clear h hn hsec hr hs16 hs hT hslot hch hlen hok hc hpart hfar hadd hnone hend hS hX hcl
 go_enter Tryz.func130,Tryz.ntmps130
 go_wp2_with fail
 refine (HSL.out _).mono ?_
 rintro e w1 ⟨rfl,rfl⟩
 go_wp2_with fail
 refine HCH.out.mono ?_
 rintro e w1 ⟨v,rfl,hv,hb,hov⟩
 obtain ⟨va,cap,rfl⟩:=hv.len layM
 rw [←HCL.out] at hv hov ⊢
 have HV:=Lib.hid hv
 have HB:=Lib.hid hb
 have HOV:=Lib.hid hov
 clear hv hb hov
 by_cases hz:cl=0
 ·have hce:c=[]:=List.length_eq_zero_iff.1 (by rw [←HCL.out];exact hz)
  have HFN:=Lib.hid (HTN.out w1 HB.out (HNO.out hce))
  have HDU:Hid (dueL c X=[]∧farL c X=[]):=Lib.hid (by rw [hce];exact ⟨rfl,rfl⟩)
  subst hz
  clear hce
  go_wp2_with fail
  go_ret2
  refine ⟨.slice none 0 0,g,st,L,ms,rfl,HFN.out,LTo.new g (Chg.of_below HB.out),?_,by rw [HDU.out.2];rfl,rfl,fun q hq=>by cases hq⟩
  rw [HDU.out.1]
  exact GRow.nil _
 ·have hz1:((cl:Int) == 0)=false:=by simp;omega
  have HP:=Lib.hid (HPA.out w1 _ HV.out)
  go_wp2_with fail
  refine HP.out.mono ?_
  rintro e w2 ⟨v1,v2,rfl,hr1,hr2,hb2,ho1,ho2⟩
  have hbw:Below w.heap.size w w2:=HB.out.trans (hb2.mono HB.out.size)
  have hw1:=HB.out.size
  have ho1':∀ q,v1.ownBlock=some q→w.heap.size≤q:=fun q hq=>by have:=ho1 q hq;omega
  have HA:=Lib.hid (HAD.out w2 v2 hbw hr2)
  have HE:=Lib.hid (fun W' a' hA=>HEN.out w2 W' v1 v1 a' hbw hr1 ho1' hA rfl)
  obtain ⟨a1,k1,hf1⟩:=hr1.len layM
  obtain ⟨l1,hl1⟩:∃ l1,l1=(dueL c X).length:=⟨_,rfl⟩
  obtain ⟨a2,k2,hf2⟩:=hr2.len layM
  obtain ⟨l2,hl2⟩:∃ l2,l2=(farL c X).length:=⟨_,rfl⟩
  rw [←hl1] at hf1
  rw [←hl2] at hf2
  subst hf1 hf2
  clear hr1 hr2 hb2 ho1 ho2 hbw hw1 ho1' hl1 hl2
  go_wp2_with fail
  refine HA.out.mono ?_
  intro e w3 hA
  have HF:=Lib.hid (HE.out w3 e hA)
  obtain rfl:=hA.1
  clear hA
  go_wp2_with fail
  go_ret2
  exact HF.out
end
end Go.Proofs.YtajmeimjaapagaaGreatDoor
namespace Go.Proofs.YtajmeimjaapagaaGreatDoor
open Go.RowKit Go.Deep
attribute [local go_sem] fr_opt
section
variable {w0 w w':World} {lb wb:Nat} {g:Gh} {st:St} {n:Nat} {hd:Int} {L:List Nat} {ms:List MkM} {C:Nat→List MkM}
theorem LgI.turned (h:LgI w0 w lb wb g st n hd L ms) {w':World} {x:Int} (hw:WhI w0 w' wb g st n x L) (hc:Chg (fun q=>q=wb) w w'):LgI w0 w' lb wb g st n x L ms:=
 ⟨hw,hc.heap h.cell h.ne,h.low,h.out,h.ne,h.file,h.ok,h.size⟩
def NextTo (w0 w:World) (lb wb:Nat) (g:Gh) (st:St) (n:Nat) (hd:Nat) (ms:List MkM) (C:Nat→List MkM) (e:Ending) (w':World):Prop:=
 ∃ v g' st' L' ms',e = .returned (.tuple #[v,.bool true,.int .i64 0])∧LgC w0 w' lb wb g' st' (n+2) ((hd+1:Nat):Int) L' ms' (updC C ((hd+1) % 16) (addM ms.length 0 (farL (C ((hd+1) % 16)) ((hd+1:Nat):Int))))∧LTo lb wb w g g' w'∧MRow w' v (dueL (C ((hd+1) % 16)) ((hd+1:Nat):Int))∧ms'.length=ms.length+(farL (C ((hd+1) % 16)) ((hd+1:Nat):Int)).length∧st'.cap=st.cap∧∀ q,v.ownBlock=some q→w.heap.size≤q
set_option maxHeartbeats 4000000 in
set_option maxRecDepth 100000 in
theorem lnext_on {hd:Nat} (h:LgC w0 w lb wb g st n (hd:Int) L ms C) (hn:n≤899000) (now:Int) (hlt:(hd:Int)<now) (hnow:now≤4611686018427387904) (hr:96+20*((ms.length+(farL (C ((hd+1) % 16)) ((hd+1:Nat):Int)).length:Nat):Int)≤st.cap) :
 Calls Tryz.prog 85 #[.pointer (some ⟨lb,0,none⟩),.int .i64 now] w (NextTo w0 w lb wb g st n hd ms C):=by
 obtain ⟨c0,_,_⟩:=h.i.cells
 have hA:=ahead_any h.i.wh now (Int.natCast_nonneg _) (by omega) (by omega)
 have hH:=fun k=>lghand_any (h.i.new (Chg.of_below (Below.refl w.heap.size w) |>.drewN k:Chg (fun _=>False) w (w.drewN k)))
 have hT:=fun k=>ltake_any (h.new ((Chg.refl _ w).drewN k:Chg (fun _=>False) w (w.drewN k))) hn (hd+1) (by omega) hr
 obtain ⟨D,hD⟩:∃ D:Int,D=max (now - hd) 0:=⟨_,rfl⟩
 rw [←hD] at hA
 have hD0:(D == 0)=false:=by simp;omega
 have hw1:IntKind.i64.wrap ((hd:Int)+1)=((hd+1:Nat):Int):=by rw [IntWalk.i64_in _ (by omega)];omega
 -- behind the taking: the hand goes on
 have hturn:∀ k v g' st' L' ms' w2,LgC w0 w2 lb wb g' st' (n+2) (hd:Int) L' ms' (updC C ((hd+1) % 16) (addM ms.length 0 (farL (C ((hd+1) % 16)) ((hd+1:Nat):Int))))→LTo lb wb (w.drewN k) g g' w2→MRow w2 v (dueL (C ((hd+1) % 16)) ((hd+1:Nat):Int))→ms'.length=ms.length+(farL (C ((hd+1) % 16)) ((hd+1:Nat):Int)).length→st'.cap=st.cap→(∀ q,v.ownBlock=some q→(w.drewN k).heap.size≤q) →
  w2.cell? ⟨lb,0,none⟩=some (.pointer (some ⟨wb,0,none⟩))∧Calls Tryz.prog 131 #[.pointer (some ⟨wb,0,none⟩),.int .i64 now] w2 fun e w3=>(∃ x,e = .returned (.tuple #[.int .i64 x,.bool true]))∧NextTo w0 w lb wb g st n hd ms C (.returned (.tuple #[v,.bool true,.int .i64 0])) w3:=fun k v g' st' L' ms' w2 hC ht hv hl hcap hov=>by
  refine ⟨hC.i.cells.1,(turn_on hC.i.wh now hlt (Int.natCast_nonneg _) (by omega)).mono ?_⟩
  rintro e w3 ⟨rfl,h3,hc3⟩
  rw [show ((hd:Int)+1)=((hd+1:Nat):Int) by omega] at h3 ⊢
  refine ⟨⟨_,rfl⟩,v,g',st',L',ms',rfl,⟨hC.i.turned h3 hc3,hC.chain⟩,?_,hv.chg hc3 (fun q hq e=>?_),hl,hcap,hov⟩
  ·exact (LTo.new g ((Chg.refl _ w).drewN k)).trans (ht.trans ⟨hc3.wide (fun q _ e=>.inr (.inl e)),fun q hq=>.inl hq,rfl⟩)
  ·have h1:=hov q hq
   have h2:=h.i.wh.lt
   have h3:(w.drewN k).heap.size=w.heap.size:=rfl
   omega
 have HA:=Lib.hid hA
 have HH:=Lib.hid hH
 have HT:=Lib.hid hT
 have HTU:=Lib.hid hturn
 obtain ⟨X,hX⟩:∃ X:Int,X=((hd+1:Nat):Int):=⟨_,rfl⟩
 rw [←hX] at hw1
 have HT2:Hid (∀ k,Calls Tryz.prog 130 #[.pointer (some ⟨lb,0,none⟩),.int .i64 X] (w.drewN k) (LTakeTo w0 (w.drewN k) lb wb g st n (hd:Int) ms C (hd+1))):=Lib.hid (fun k=>by rw [hX];exact HT.out k)
 have HX:=Lib.hid hX
 have hw2:(hd:Int)+1=X:=by omega
 have HW2:=Lib.hid hw2
 clear h hn hlt hnow hr hA hH hT hD hturn HT hX hw2
 go_enter Tryz.func85,Tryz.ntmps85
 go_wp2_with fail
 refine HA.out.mono ?_
 rintro e w1 ⟨rfl,k,rfl⟩
 go_wp2_with fail
 refine (HH.out k).mono ?_
 rintro e w1 ⟨rfl,rfl⟩
 go_wp2_with fail
 refine (HT2.out k).mono ?_
 rintro e w2 ⟨v,g',st',L',ms',rfl,hC,ht,hv,hl,hcap,hov⟩
 have hfin:=HTU.out k v g' st' L' ms' w2 hC ht hv hl hcap hov
 obtain ⟨a1,k1,hf1⟩:=hv.len layM
 obtain ⟨l1,hl1⟩:∃ l1,l1=(dueL (C ((hd+1) % 16)) ((hd+1:Nat):Int)).length:=⟨_,rfl⟩
 rw [←hl1] at hf1
 subst hf1
 have c0:=hfin.1
 have HF:=Lib.hid hfin.2
 clear hfin hC ht hv hl hcap hov hl1
 go_wp2_with fail
 refine HF.out.mono ?_
 rintro e w3 ⟨⟨x,rfl⟩,hN⟩
 have HN:=Lib.hid hN
 clear hN
 go_wp2_with fail
 go_ret3
 exact HN.out
theorem lnext_off (h:LgI w0 w lb wb g st n hd L ms) (now:Int) (hle:now≤hd) (h0:0≤hd) (hx:hd≤4611686018427387904) :
 Calls Tryz.prog 85 #[.pointer (some ⟨lb,0,none⟩),.int .i64 now] w fun e w'=>e = .returned (.tuple #[.slice none 0 0,.bool false,.int .i64 0])∧Below w.heap.size w w':=by
 obtain ⟨c0,_,_⟩:=h.cells
 have hA:=ahead_any h.wh now h0 (by omega) (by omega)
 rw [show max (now - hd) 0=0 by omega] at hA
 have HA:=Lib.hid hA
 clear h hle h0 hx hA
 go_enter Tryz.func85,Tryz.ntmps85
 go_wp2_with fail
 refine HA.out.mono ?_
 rintro e w1 ⟨rfl,k,rfl⟩
 go_wp2_with fail
 go_ret3
 exact ⟨rfl,below_drewN (Below.refl _ _) k⟩
end
end Go.Proofs.YtajmeimjaapagaaGreatDoor
namespace Go.Proofs.YtajmeimjaapagaaGreatDoor
open Go.RowKit Go.Deep
attribute [local go_sem] fr_opt
section
variable {w0 w w':World} {lb wb:Nat} {g:Gh} {st:St} {n:Nat} {hd:Int} {L:List Nat} {ms:List MkM} {C:Nat→List MkM}
def PutTo1 (w0 w:World) (lb wb:Nat) (g:Gh) (st:St) (n:Nat) (hd:Int) (ms:List MkM) (C:Nat→List MkM) (due rc:Nat) (e:Ending) (w':World):Prop:=
 e = .returned (.int .i64 0)∧∃ g' st' L' ms' a,LgC w0 w' lb wb g' st' (n+2) hd L' ms' (updC C (due % 16) (C (due % 16) ++ [⟨due,rc,a,1⟩]))∧LTo lb wb w g g' w'∧ms'.length=ms.length+1∧st'.cap=st.cap
set_option maxHeartbeats 4000000 in
set_option maxRecDepth 100000 in
theorem lput_ok (h:LgC w0 w lb wb g st n hd L ms C) (hn:n≤899000) (due rc:Nat) (hdue:due≤1099511627776) (hrc:rc≤1099511627776) (hlt:hd<due) (hr:96+20*((ms.length+1:Nat):Int)≤st.cap) :
 Calls Tryz.prog 13 #[.pointer (some ⟨lb,0,none⟩),.int .i64 (due:Int),.int .i64 (rc:Int)] w (PutTo1 w0 w lb wb g st n hd ms C due rc):=by
 obtain ⟨c0,_,_⟩:=h.i.cells
 have h1:=fun W=>lright_any (due:Int) W
 have h2:=fun W=>lright_any (rc:Int) W
 have e1:(decide (0≤(due:Int)) && decide ((due:Int)≤1099511627776))=true:=by rw [decide_eq_true (by omega),decide_eq_true (by omega)];rfl
 have e2:(decide (0≤(rc:Int)) && decide ((rc:Int)≤1099511627776))=true:=by rw [decide_eq_true (by omega),decide_eq_true (by omega)];rfl
 simp only [e1] at h1
 simp only [e2] at h2
 have hs16:due % 16<16:=Nat.mod_lt _ (by decide)
 obtain ⟨s,hs⟩:∃ s,s=due % 16:=⟨_,rfl⟩
 have hslot:=fun W=>slot_any (due:Int) W (Int.natCast_nonneg _)
 rw [show ((due:Int) % 16)=(s:Int) by omega] at hslot
 unfold PutTo1
 rw [←hs] at hs16 ⊢
 have hH:=whead_any h.i.wh (s:Int)
 rw [show wHeadV L (s:Int)=L.getD s 0 from by unfold wHeadV;rw [if_neg (by omega),Int.toNat_natCast],show wHeadE (s:Int)=0 from by unfold wHeadE;rw [if_neg (by omega)]] at hH
 have hch:=h.chain s hs16
 have hle:=hch.le.1
 obtain ⟨a,ha⟩:∃ a,a=L.getD s 0:=⟨_,rfl⟩
 rw [←ha] at hH hch hle
 have hadd:∀ W W2,Below w.heap.size w W→W2=W.alloc (.cells #[.int .i64 (due:Int),.int .i64 (rc:Int),.int .i64 0,.int .i64 0] 89)→Calls Tryz.prog 39 #[.pointer (some ⟨lb,0,none⟩),.int .i64 (s:Int),.int .i64 (a:Int),.slice (some ⟨W.heap.size,0,none⟩) 1 1] W2 (fun e w'=>e = .returned (.int .i64 0)∧∃ g' st' L' ms' a,LgC w0 w' lb wb g' st' (n+2) hd L' ms' (updC C s (C s ++ [⟨due,rc,a,1⟩]))∧LTo lb wb w g g' w'∧ms'.length=ms.length+1∧st'.cap=st.cap):=fun W W2 hW hW2=>by
  have hb2:Below w.heap.size w W2:=hW2▸hW.alloc hW.size _
  have hrow:MRow W2 (.slice (some ⟨W.heap.size,0,none⟩) 1 1) [⟨due,rc,0,0⟩]:=hW2▸GRow.one layM W ⟨due,rc,0,0⟩
  have hsz:=h.i.size
  refine (ladd_any (h.i.new (Chg.of_below hb2)) hn s hs16 a hle _ _ hrow (fun m hm=>by rw [List.mem_singleton.1 hm];exact ⟨hdue,hrc,Nat.zero_lt_succ _,Nat.zero_lt_succ _⟩) (by show 20*((1:Nat):Int)≤_;omega)).mono ?_
  rintro e w' ⟨rfl,g',st',hi,ht,hcap⟩
  exact ⟨rfl,g',st',_,_,a,⟨hi,chains_put h.i.wh.len h.chain s hs16 a (C s) hch [⟨due,rc,0,0⟩]⟩,(LTo.new g (Chg.of_below hb2)).trans ht,by rw [List.length_append,addM_length];rfl,hcap⟩
 have H1:=Lib.hid h1
 have H2:=Lib.hid h2
 have HH:=Lib.hid (lghand_any h.i)
 have HSL:=Lib.hid hslot
 have HHD:=Lib.hid hH
 have HAD:=Lib.hid hadd
 obtain ⟨D,hD⟩:∃ D:Int,D=(due:Int):=⟨_,rfl⟩
 obtain ⟨R,hR⟩:∃ R:Int,R=(rc:Int):=⟨_,rfl⟩
 obtain ⟨S,hS⟩:∃ S:Int,S=(s:Int):=⟨_,rfl⟩
 rw [←hD] at H1 HSL HAD hlt ⊢
 rw [←hR] at H2 HAD ⊢
 rw [←hS] at HSL HHD HAD
 have hlt':¬ D≤hd:=by omega
 have hlt2:decide (D≤hd)=false:=decide_eq_false hlt'
 have hlb:=h.i.lt
 have HC0:Hid (∀ W,Below w.heap.size w W→W.cell? ⟨lb,0,none⟩=some (.pointer (some ⟨wb,0,none⟩))):=Lib.hid (fun W hW=>(hW.cell (p:=⟨lb,0,none⟩) hlb).trans c0)
 clear h hn hdue hrc hr h1 h2 e1 e2 hs16 hs hslot hH hch hle ha hadd hD hR hS hlb
 go_enter Tryz.func13,Tryz.ntmps13
 go_wp2_with fail
 refine (H1.out _).mono ?_
 rintro e w1 ⟨rfl,rfl⟩
 go_wp2_with fail
 refine (H2.out _).mono ?_
 rintro e w1 ⟨rfl,rfl⟩
 go_wp2_with fail
 refine HH.out.mono ?_
 rintro e w1 ⟨rfl,rfl⟩
 go_wp2_with fail
 refine (HSL.out _).mono ?_
 rintro e w1 ⟨rfl,rfl⟩
 go_wp2_with fail
 refine HHD.out.mono ?_
 rintro e w2 ⟨rfl,hb2⟩
 have HA:=Lib.hid (HAD.out w2 _ hb2 rfl)
 clear hb2
 go_wp2_with fail
 refine HA.out.mono ?_
 rintro e w3 ⟨rfl,hx⟩
 have HX:=Lib.hid hx
 clear hx
 go_wp2_with fail
 go_ret
 exact ⟨rfl,HX.out⟩
end
end Go.Proofs.YtajmeimjaapagaaGreatDoor
namespace Go.Proofs.YtajmeimjaapagaaGreatDoor
open Go.RowKit Go.Deep
attribute [local go_sem] fr_opt
section
variable {w0 w w':World} {lb wb:Nat} {g:Gh} {st:St} {n:Nat} {hd:Int} {L:List Nat} {ms:List MkM} {C:Nat→List MkM}
end
end Go.Proofs.YtajmeimjaapagaaGreatDoor
namespace Go.Proofs.YtajmeimjaapagaaGreatDoor
open Go.RowKit Go.Deep
abbrev WL:=List (Nat×Nat)
def mkP (m:MkM):Nat×Nat:=(m.due,m.rc)
def slotL (ws:WL) (s:Nat):WL:=ws.filter fun p=>decide (p.1 % 16=s)
def restL (ws:WL) (x:Nat):WL:=ws.filter fun p=>!decide (p.1=x)
def comeL (ws:WL) (x:Nat):WL:=ws.filter fun p=>decide (p.1=x)
structure RelC (C:Nat→List MkM) (ws:WL):Prop where
 eq:∀ s,s<16→(C s).map mkP=slotL ws s
 ps:∀ s,s<16→∀ m∈C s,1≤m.ps
theorem RelC.none:RelC (fun _=>[]) []:=⟨fun _ _=>rfl,fun _ _ m hm=>by cases hm⟩
theorem RelC.put {C:Nat→List MkM} {ws:WL} (h:RelC C ws) (due rc a:Nat):RelC (updC C (due % 16) (C (due % 16) ++ [⟨due,rc,a,1⟩])) (ws ++ [(due,rc)]):=by
 refine ⟨fun s hs=>?_,fun s hs m hm=>?_⟩
 ·unfold updC slotL
  rw [List.filter_append]
  by_cases he:s=due % 16
  ·subst he
   rw [if_pos rfl,List.map_append,h.eq _ hs,List.filter_cons_of_pos (by simp)]
   rfl
  ·rw [if_neg he,h.eq s hs,List.filter_cons_of_neg (by simp;omega)]
   simp [slotL]
 ·unfold updC at hm
  split at hm
  ·rcases List.mem_append.1 hm with a|a
   ·exact h.ps _ (Nat.mod_lt _ (by decide)) m a
   ·rw [List.mem_singleton.1 a];exact Nat.le_refl _
  ·exact h.ps s hs m hm
theorem addM_map (xs:List MkM):∀ n a,(addM n a xs).map mkP=xs.map mkP:=by
 induction xs with
 | nil=>intro n a;rfl
 | cons x xs ih=>intro n a;rw [addM,List.map_cons,List.map_cons,ih];rfl
theorem addM_ps (xs:List MkM):∀ n a,∀ m∈addM n a xs,1≤m.ps:=by
 induction xs with
 | nil=>intro n a m hm;cases hm
 | cons x xs ih=>
  intro n a m hm
  rcases List.mem_cons.1 hm with rfl|hm
  ·show 1≤min (x.ps+1) 65535;omega
  ·exact ih _ _ m hm
theorem map_filterP (c:List MkM) (q:Nat×Nat→Bool):(c.filter fun m=>q (mkP m)).map mkP=(c.map mkP).filter q:=by
 rw [List.filter_map];rfl
theorem due_map {C:Nat→List MkM} {ws:WL} (h:RelC C ws) {x:Nat} (hl:∀ p∈ws,x≤p.1):(dueL (C (x % 16)) (x:Int)).map mkP=comeL ws x:=by
 have e1:dueL (C (x % 16)) (x:Int)=(C (x % 16)).filter fun m=>(fun p:Nat×Nat=>decide (p.1≤x)) (mkP m):=by
  unfold dueL
  refine List.filter_congr fun m _=>?_
  show (!decide ((x:Int)<(m.due:Int)))=decide (m.due≤x)
  by_cases hx:m.due≤x
  ·rw [decide_eq_true hx,decide_eq_false (by omega)];rfl
  ·rw [decide_eq_false hx,decide_eq_true (by omega)];rfl
 rw [e1,map_filterP _ (fun p:Nat×Nat=>decide (p.1≤x)),h.eq _ (Nat.mod_lt _ (by decide))]
 unfold slotL comeL
 rw [List.filter_filter]
 refine List.filter_congr fun p hp=>?_
 have:=hl p hp
 by_cases hx:p.1=x
 ·rw [decide_eq_true (show p.1≤x by omega),decide_eq_true (show p.1 % 16=x % 16 by rw [hx]),decide_eq_true hx];rfl
 ·rw [decide_eq_false (show ¬ p.1≤x by omega),decide_eq_false hx];simp
theorem far_map {C:Nat→List MkM} {ws:WL} (h:RelC C ws) (x:Nat):(farL (C (x % 16)) (x:Int)).map mkP=(slotL ws (x % 16)).filter fun p=>decide (x<p.1):=by
 have e1:farL (C (x % 16)) (x:Int)=(C (x % 16)).filter fun m=>(fun p:Nat×Nat=>decide (x<p.1)) (mkP m):=by
  unfold farL
  refine List.filter_congr fun m _=>?_
  show decide ((x:Int)<(m.due:Int))=decide (x<m.due)
  by_cases hx:x<m.due
  ·rw [decide_eq_true hx,decide_eq_true (by omega)]
  ·rw [decide_eq_false hx,decide_eq_false (by omega)]
 rw [e1,map_filterP _ (fun p:Nat×Nat=>decide (x<p.1)),h.eq _ (Nat.mod_lt _ (by decide))]
theorem RelC.next {C:Nat→List MkM} {ws:WL} (h:RelC C ws) {x:Nat} (hl:∀ p∈ws,x≤p.1) (k:Nat):RelC (updC C (x % 16) (addM k 0 (farL (C (x % 16)) (x:Int)))) (restL ws x):=by
 refine ⟨fun s hs=>?_,fun s hs m hm=>?_⟩
 ·unfold updC
  by_cases he:s=x % 16
  ·subst he
   rw [if_pos rfl,addM_map,far_map h]
   unfold slotL restL
   rw [List.filter_filter,List.filter_filter]
   refine List.filter_congr fun p hp=>?_
   have:=hl p hp
   by_cases hx:p.1=x
   ·rw [decide_eq_false (show ¬ x<p.1 by omega),decide_eq_true hx];simp
   ·rw [decide_eq_true (show x<p.1 by omega),decide_eq_false hx];simp
  ·rw [if_neg he,h.eq s hs]
   unfold slotL restL
   rw [List.filter_filter]
   refine List.filter_congr fun p hp=>?_
   by_cases hx:p.1=x
   ·rw [decide_eq_false (show ¬ p.1 % 16=s by rw [hx];omega)];simp
   ·rw [decide_eq_false hx];simp
 ·unfold updC at hm
  split at hm
  ·exact addM_ps _ _ _ m hm
  ·exact h.ps s hs m hm
def potL (t:Nat):WL→Nat
 | []=>0
 | p :: l=>(15 - (p.1 - t - 1) % 16)+potL t l
theorem potL_app (t:Nat) (a b:WL):potL t (a ++ b)=potL t a+potL t b:=by
 induction a with
 | nil=>simp [potL]
 | cons p a ih=>rw [List.cons_append,potL,ih,potL];omega
theorem pot_next (t:Nat):∀ ws:WL,(∀ p∈ws,t<p.1)→potL (t+1) (restL ws (t+1))+16*((slotL ws ((t+1) % 16)).filter fun p=>decide (t+1<p.1)).length≤potL t ws+ws.length
 | [],_=>by simp [potL,restL,slotL]
 | p :: l,h=>by
  have hp:=h p (by simp)
  have ih:=pot_next t l (fun q hq=>h q (by simp [hq]))
  unfold restL slotL at ih ⊢
  rw [List.length_cons,potL]
  by_cases h1:p.1=t+1
  ·rw [List.filter_cons_of_neg (by simp [h1]),List.filter_cons_of_pos (by simp [h1]),List.filter_cons_of_neg (by simp [h1])]
   omega
  ·rw [List.filter_cons_of_pos (by simp [h1]),potL]
   by_cases h2:p.1 % 16=(t+1) % 16
   ·rw [List.filter_cons_of_pos (by simp [h2]),List.filter_cons_of_pos (by simp;omega),List.length_cons]
    omega
   ·rw [List.filter_cons_of_neg (by simp [h2])]
    omega
theorem rest_later {ws:WL} {t:Nat} (h:∀ p∈ws,t<p.1):∀ p∈restL ws (t+1),t+1<p.1:=fun p hp=>by
 obtain ⟨h1,h2⟩:=List.mem_filter.1 hp
 have:=h p h1
 have:p.1≠t+1:=by simpa using h2
 omega
end Go.Proofs.YtajmeimjaapagaaGreatDoor
