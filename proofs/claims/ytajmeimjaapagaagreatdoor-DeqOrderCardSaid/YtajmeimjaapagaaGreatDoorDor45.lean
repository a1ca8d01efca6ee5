/- A part. -/
import Derived.Deep.RegionHeld3
import Derived.Test.YtajmeimjaapagaaGreatDoorDor41
set_option linter.unusedVariables false
set_option linter.unusedSimpArgs false
namespace Go.Proofs.YtajmeimjaapagaaGreatDoor
open Go.RowKit Go.Deep
attribute [local go_sem] fr_opt
theorem hahead_any (b o:Nat) (x now:Int) (w:World) (hc:w.cell? ⟨b,o,none⟩=some (.int .i64 x)) (h0:0≤x) (hx:x≤9223372036854775807) (hn:now≤9223372036854775807) :
 Calls Tryz.prog 175 #[.pointer (some ⟨b,o,none⟩),.int .i64 now] w fun e w'=>e = .returned (.int .i64 (max (now - x) 0))∧∃ k,w'=w.drewN k:=by
 obtain ⟨m,hm⟩:∃ m,m=max now x:=⟨_,rfl⟩
 have e1:IntKind.i64.wrap (max now x - x)=max (now - x) 0:=by rw [IntWalk.i64_in _ (by omega)];omega
 have HE:=Lib.hid e1
 have e2:max now x - x=max (now - x) 0:=by omega
 have HE2:=Lib.hid e2
 go_enter Tryz.func175,Tryz.ntmps175
 go_upto_region 1 with fail
 go_region
 all_goals (try go_wp2)
 all_goals go_ret
 all_goals first|exact ⟨rfl,_,rfl⟩|exact ⟨by rw [HE.out],_,rfl⟩|exact ⟨by rw [HE2.out],_,rfl⟩
theorem ahead_any {w0 w:World} {wb:Nat} {g:Gh} {st:St} {n:Nat} {hd:Int} {L:List Nat} (h:WhI w0 w wb g st n hd L) (now:Int) (h0:0≤hd) (hx:hd≤9223372036854775807) (hn:now≤9223372036854775807) :
 Calls Tryz.prog 129 #[.pointer (some ⟨wb,0,none⟩),.int .i64 now] w fun e w'=>e = .returned (.int .i64 (max (now - hd) 0))∧∃ k,w'=w.drewN k:=by
 obtain ⟨c0,c1,hz⟩:=h.cells
 have HA:=Lib.hid (hahead_any wb 1 hd now w c1 h0 hx hn)
 obtain ⟨r,hr⟩:∃ r,r=max (now - hd) 0:=⟨_,rfl⟩
 rw [←hr] at HA ⊢
 clear h c0 hz hr h0 hx hn
 go_enter Tryz.func129,Tryz.ntmps129
 go_wp2_with fail
 refine HA.out.mono ?_
 rintro e w1 ⟨rfl,k,rfl⟩
 go_wp2_with fail
 go_ret
 exact ⟨rfl,k,rfl⟩
def WSetTo (w0 w:World) (wb:Nat) (g:Gh) (st:St) (n:Nat) (hd:Int) (L:List Nat) (slot x:Int) (e:Ending) (w':World):Prop:=
 e = .returned (.int .i64 (wSetE slot x))∧∃ g' st',WhI w0 w' wb g' st' (n+1) hd (wSetL L slot x)∧Gh.To w g g' w'∧st'.cap=st.cap∧st'.size=st.size∧∀ nm,nm≠wS→st'.find nm=st.find nm
theorem WhI.more {w0 w:World} {wb:Nat} {g:Gh} {st:St} {n m:Nat} {hd:Int} {L:List Nat} (h:WhI w0 w wb g st n hd L) (hm:n≤m):WhI w0 w wb g st m hd L:=
 ⟨h.disk,h.chg,h.glow,h.ease.more hm,h.cell,h.low,h.out,h.file,h.len,h.ok⟩
theorem wset_none {w0 w w':World} {wb:Nat} {g:Gh} {st:St} {n:Nat} {hd:Int} {L:List Nat} (h:WhI w0 w wb g st n hd L) (slot x:Int) (k:Int) (hk:wSetE slot x=k) (h0:k≠0) (hb:Below w.heap.size w w') :
 WSetTo w0 w wb g st n hd L slot x (.returned (.int .i64 k)) w':=by
 have e:wSetL L slot x=L:=by unfold wSetL;rw [if_neg (by rw [hk];exact h0)]
 refine ⟨by rw [hk],g,st,?_,Gh.To.new g (Chg.of_below hb),rfl,rfl,fun _ _=>rfl⟩
 rw [e]
 exact (h.new (Chg.of_below hb)).more (Nat.le_succ n)
set_option maxHeartbeats 2000000 in
set_option maxRecDepth 100000 in
theorem wset_any {w0 w:World} {wb:Nat} {g:Gh} {st:St} {n:Nat} {hd:Int} {L:List Nat} (h:WhI w0 w wb g st n hd L) (hn:n≤900000) (slot x:Int) :
 Calls Tryz.prog 84 #[.pointer (some ⟨wb,0,none⟩),.int .i64 slot,.int .i64 x] w (WSetTo w0 w wb g st n hd L slot x):=by
 have hrf:=refuses_any wb slot w
 by_cases hs:slot<0∨15<slot
 ·rw [if_pos hs] at hrf
  have HR:=Lib.hid hrf
  have HN:=Lib.hid (wset_none h slot x 2 (by unfold wSetE;rw [if_pos hs]) (by decide) (Below.refl _ _))
  clear hrf hs h hn
  go_enter Tryz.func84,Tryz.ntmps84
  go_wp2_with fail
  refine HR.out.mono ?_
  rintro e w1 ⟨rfl,rfl⟩
  go_wp2_with fail
  go_ret
  exact HN.out
 ·rw [if_neg hs] at hrf
  have hI:∀ W:World,Oc.Ints (W.alloc (.cells #[.int .i64 x] 3)) (.slice (some ⟨W.heap.size,0,none⟩) 1 1) [x]:=fun W=>⟨_,_,rfl,.inr ⟨W.heap.size,0,rfl,fun i hi=>by
   obtain rfl:i=0:=by simp at hi;exact hi
   simp⟩⟩
  have hbel:∀ w3,Below (w.alloc (.cells #[.int .i64 x] 3)).heap.size (w.alloc (.cells #[.int .i64 x] 3)) w3→Below w.heap.size w w3:=fun w3 hb=>((Below.refl w.heap.size w).alloc (Nat.le_refl _) _).trans (hb.mono (by rw [World.size_alloc];omega))
  by_cases hx:x<0∨281474976710656≤x
  ·have HR:=Lib.hid hrf
   have HN:=Lib.hid (Oc.numS_range 6 _ _ _ (by decide) (by decide) (by show 1≤_;omega) (hI w) (fun hf=>by
    obtain ⟨a,b⟩:=hf x (List.mem_singleton_self x)
    have b:x<281474976710656:=b
    omega))
   have HE:=Lib.hid (fun w' hb=>wset_none (w':=w') h slot x 1 (by unfold wSetE;rw [if_neg hs,if_pos hx]) (by decide) hb)
   have HB:=Lib.hid hbel
   clear hrf hs h hn hI hbel hx
   go_enter Tryz.func84,Tryz.ntmps84
   go_wp2_with fail
   refine HR.out.mono ?_
   rintro e w1 ⟨rfl,rfl⟩
   go_wp2_with fail
   refine HN.out.mono ?_
   rintro e w3 ⟨rfl,hb3⟩
   have HB3:=Lib.hid (HB.out w3 hb3)
   clear hb3
   go_wp2_with fail
   go_ret
   exact HE.out _ HB3.out
  ·obtain ⟨f,hf,hfb⟩:=h.file
   obtain ⟨i,hi⟩:∃ i:Nat,slot=(i:Int):=⟨slot.toNat,by omega⟩
   obtain ⟨y,hy⟩:∃ y:Nat,x=(y:Int):=⟨x.toNat,by omega⟩
   subst hi hy
   have hi16:i<16:=by omega
   have hy48:y<281474976710656:=by omega
   have hE:wSetE (i:Int) (y:Int)=0:=by unfold wSetE;rw [if_neg hs,if_neg hx]
   have hL:wSetL L (i:Int) (y:Int)=L.set i y:=by unfold wSetL;rw [if_pos hE];simp
   obtain ⟨s,hsd⟩:∃ s:ByteArray,s=⟨(Oc.numB 6 y).toArray⟩:=⟨_,rfl⟩
   have hd1:s.data.toList=Oc.numB 6 y:=by rw [hsd]
   have hz1:s.size=6:=by rw [←text_len,hd1,Oc.numB_length]
   have hlen:=wbytes_length L
   have hL16:=h.len
   have hmo:more f (6*i) s.size=0:=by unfold more;rw [hfb,hlen];omega
   obtain ⟨e1,e2,e3⟩:=ease_writeA h.ease (a:=6*i) (s:=s) hf (by rw [hfb,hlen];omega) (by rw [hmo];omega) (by omega)
   rw [hmo] at e2
   obtain ⟨st1,hst1⟩:∃ t,t=writeS st wS ((6*i:Nat):Int) s:=⟨_,rfl⟩
   rw [←hst1] at e2 e3
   have hWr:∀ W,DiskAt W g st→Calls Tryz.prog 81 #[.pointer (some ⟨g.d,0,none⟩),.string wS,.int .i64 ((6*i:Nat):Int),.string s] W (OpTo g 0 st1 W):=fun W hW=>by
    have:=write_any g st wS ((6*i:Nat):Int) s W hW (by decide) h.ease.good.fuse (by omega) h.ease.good.cap h.ease.good.size (by have:=h.ease.good.turn;omega) (fun f' hf'=>by
     rw [hf] at hf';cases hf'
     exact ⟨by rw [hfb,hlen];omega,by have:=(h.ease.good.file hf).count;omega⟩)
    rw [e1,←hst1] at this
    exact this
   have hNum:=Oc.numS_ok 6 _ _ _ (by decide) (by decide) (by show 1≤_;omega) (hI w) (fun z hz=>by
    rw [List.mem_singleton.1 hz]
    exact ⟨Int.natCast_nonneg _,by show ((y:Nat):Int)<281474976710656;omega⟩)
   have e6:Oc.numsB 6 [((y:Nat):Int)]=Oc.numB 6 y:=by
    unfold Oc.numsB
    rw [List.flatMap_cons,List.flatMap_nil,List.append_nil,Int.toNat_natCast]
   rw [e6,←hsd] at hNum
   have hfin:∀ w4 w5 g5,Below w.heap.size w w4→DiskAt w5 g5 st1→Gh.To w4 g g5 w5→WSetTo w0 w wb g st n hd L (i:Int) (y:Int) (.returned (.int .i64 0)) w5:=fun w4 w5 g5 hb d5 t5=>by
    have t:=(Gh.To.new g (Chg.of_below hb:Chg (fun _=>False) w w4)).trans t5
    have hlt:=h.lt
    have hz0:=h.chg.size
    refine ⟨by rw [hE],g5,st1,⟨d5,h.chg.trans t.chg (fun q hq hx=>by have:=h.glow q hx;omega),fun q hq=>?_,e3,?_,h.low,fun hx=>?_,⟨_,by rw [e2];exact wfind_same hf,?_⟩,by rw [wSetL_length];exact h.len,wSetL_ok h.ok⟩,t,by rw [e2],by rw [e2];rfl,fun nm hnm=>by rw [e2];exact wfind_other hnm⟩
    ·rcases t.fp q hq with a|a
     ·exact h.glow q a
     ·omega
    ·rw [t.d]
     exact t.chg.heap h.cell h.out
    ·rcases t.fp wb hx with a|a
     ·exact h.out a
     ·omega
    ·show putB f.bytes (6*i) s.data.toList=_
     rw [hfb,hd1,wbytes_set L y (by rw [hL16];exact hi16),hL]
   obtain ⟨c0,c1,hz⟩:=h.cells
   have HK:Hid (∀ W,Below w.heap.size w W→W.cell? ⟨wb,0,none⟩=some (.pointer (some ⟨g.d,0,none⟩))∧DiskAt W g st):=Lib.hid (fun W hW=>⟨(hW.cell (p:=⟨wb,0,none⟩) h.lt).trans c0,h.disk.new (Chg.of_below hW)⟩)
   have e7:IntKind.i64.wrap (6*(i:Int))=((6*i:Nat):Int):=by rw [IntWalk.i64_in _ (by omega)];omega
   have HR:=Lib.hid hrf
   have HN:=Lib.hid hNum
   have HW:=Lib.hid hWr
   have HF:=Lib.hid hfin
   have HB:=Lib.hid hbel
   obtain ⟨P,hP⟩:∃ P:Int,P=((6*i:Nat):Int):=⟨_,rfl⟩
   rw [←hP] at e7 HW
   obtain ⟨I,hI2⟩:∃ I:Int,I=(i:Int):=⟨_,rfl⟩
   rw [←hI2] at e7 HR HF ⊢
   obtain ⟨Y,hY2⟩:∃ I:Int,I=(y:Int):=⟨_,rfl⟩
   rw [←hY2] at HN HF HB ⊢
   have e8:6*I=P:=by rw [hI2,hP];omega
   have HE8:=Lib.hid e8
   clear hrf hs hx hn hI hbel h hf hfb hi16 hy48 hE hL hsd hd1 hz1 hlen hL16 hmo e1 e2 e3 hst1 hWr hNum e6 hfin c0 c1 hz hP hI2 hY2 e8
   go_enter Tryz.func84,Tryz.ntmps84
   go_wp2_with fail
   refine HR.out.mono ?_
   rintro e w1 ⟨rfl,rfl⟩
   go_wp2_with fail
   refine HN.out.mono ?_
   rintro e w3 ⟨rfl,hb3⟩
   have HB3:=Lib.hid (HB.out w3 hb3)
   clear hb3
   obtain ⟨k0,hd3⟩:=HK.out w3 HB3.out
   have HD3:=Lib.hid (HW.out w3 hd3)
   clear hd3
   go_wp2_with fail
   refine HD3.out.mono ?_
   rintro e w5 ⟨rfl,g5,d5,t5⟩
   have HFF:=Lib.hid (HF.out w3 w5 g5 HB3.out d5 t5)
   clear d5 t5
   go_wp2_with fail
   go_ret
   exact HFF.out
def wHeadE (slot:Int):Int:=if slot<0∨15<slot then 2 else 0
def wHeadV (L:List Nat) (slot:Int):Nat:=if slot<0∨15<slot then 0 else L.getD slot.toNat 0
set_option maxHeartbeats 2000000 in
set_option maxRecDepth 100000 in
theorem whead_any {w0 w:World} {wb:Nat} {g:Gh} {st:St} {n:Nat} {hd:Int} {L:List Nat} (h:WhI w0 w wb g st n hd L) (slot:Int) :
 Calls Tryz.prog 38 #[.pointer (some ⟨wb,0,none⟩),.int .i64 slot] w fun e w'=>e = .returned (.tuple #[.int .i64 (wHeadV L slot:Nat),.int .i64 (wHeadE slot)])∧Below w.heap.size w w':=by
 have hrf:=refuses_any wb slot w
 by_cases hs:slot<0∨15<slot
 ·rw [if_pos hs] at hrf
  rw [show wHeadV L slot=0 from by unfold wHeadV;rw [if_pos hs],show wHeadE slot=2 from by unfold wHeadE;rw [if_pos hs]]
  have HR:=Lib.hid hrf
  clear hrf hs h
  go_enter Tryz.func38,Tryz.ntmps38
  go_wp2_with fail
  refine HR.out.mono ?_
  rintro e w1 ⟨rfl,rfl⟩
  go_wp2_with fail
  go_ret2
  exact ⟨rfl,Below.refl _ _⟩
 ·rw [if_neg hs] at hrf
  rw [show wHeadV L slot=L.getD slot.toNat 0 from by unfold wHeadV;rw [if_neg hs],show wHeadE slot=0 from by unfold wHeadE;rw [if_neg hs]]
  obtain ⟨f,hf,hfb⟩:=h.file
  obtain ⟨i,hi⟩:∃ i:Nat,slot=(i:Int):=⟨slot.toNat,by omega⟩
  subst hi
  rw [Int.toNat_natCast]
  have hi16:i<16:=by omega
  have hlen:=wbytes_length L
  have hL16:=h.len
  have hR:=wread_ok g st wS f (6*i) 6 w h.disk (by decide) h.ease.down hf (by omega) (by rw [hfb,hlen];omega) (by rw [hfb,hlen];omega)
  rw [hfb,wbytes_at L (by rw [hL16];exact hi16)] at hR
  have hv48:L.getD i 0<281474976710656:=by
   rw [List.getD_eq_getElem?_getD,List.getElem?_eq_getElem (by rw [hL16];exact hi16)]
   exact h.ok _ (List.getElem_mem _)
  obtain ⟨v,hv⟩:∃ v,v=L.getD i 0:=⟨_,rfl⟩
  rw [←hv] at hR hv48 ⊢
  have hN:=Oc.numS_read 6 v (by decide) (by decide) (by show v<281474976710656;exact hv48) []
  rw [List.append_nil] at hN
  obtain ⟨s,hsd⟩:∃ s:ByteArray,s=⟨(Oc.numB 6 v).toArray⟩:=⟨_,rfl⟩
  rw [←hsd] at hR hN
  have e7:IntKind.i64.wrap (6*(i:Int))=((6*i:Nat):Int):=by rw [IntWalk.i64_in _ (by omega)];omega
  obtain ⟨c0,c1,hz⟩:=h.cells
  obtain ⟨P,hP⟩:∃ P:Int,P=((6*i:Nat):Int):=⟨_,rfl⟩
  rw [←hP] at e7 hR
  obtain ⟨I,hI2⟩:∃ I:Int,I=(i:Int):=⟨_,rfl⟩
  rw [←hI2] at e7 hrf ⊢
  have e8:6*I=P:=by rw [hI2,hP];omega
  have HE8:=Lib.hid e8
  have HRF:=Lib.hid hrf
  have HR:=Lib.hid hR
  have HN:=Lib.hid hN
  clear hR hN hsd hf hfb h hv hv48 hrf hs hi16 hlen hL16 hP hI2 e8 c1 hz
  go_enter Tryz.func38,Tryz.ntmps38
  go_wp2_with fail
  refine HRF.out.mono ?_
  rintro e w1 ⟨rfl,rfl⟩
  go_wp2_with fail
  refine HR.out.mono ?_
  rintro e w2 ⟨rfl,hb2⟩
  have HB2:=Lib.hid hb2
  clear hb2
  go_wp2_with fail
  refine (Oc.new_any s w2).mono ?_
  rintro e w3 ⟨rfl,rfl⟩
  have hrd:Oc.Rd (w2.alloc (.cells #[.string s,.int .i64 0] 191)) w2.heap.size s 0:=heap_alloc_new w2 _
  have HC:=Lib.hid (Oc.num_any _ s 6 _ hrd HN.out)
  have HB3:=Lib.hid (HB2.out.alloc HB2.out.size (.cells #[.string s,.int .i64 0] 191))
  clear hrd
  go_wp2_with fail
  refine HC.out.mono ?_
  rintro e w4 ⟨rfl,_,hg⟩
  have hB4:=below_grown' HB3.out hg (Nat.le_refl _) HB2.out.size
  go_wp2_with fail
  go_ret2
  exact ⟨rfl,hB4⟩
end Go.Proofs.YtajmeimjaapagaaGreatDoor
