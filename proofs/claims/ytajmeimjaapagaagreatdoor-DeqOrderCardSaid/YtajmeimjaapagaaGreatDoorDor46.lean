/- A part. -/
import Derived.Deep.RegionHeld3
import Derived.Test.YtajmeimjaapagaaGreatDoorDor42
set_option linter.unusedVariables false
set_option linter.unusedSimpArgs false
namespace Go.Proofs.YtajmeimjaapagaaGreatDoor
open Go.RowKit Go.Deep
attribute [local go_sem] fr_opt
def wSum (st:St) (ts:List ByteArray):Nat:=(ts.map st.len).sum
def wReadyE (st:St) (ts:List ByteArray):Int:=if st.down=true then 8 else if (st.cap:Int) - st.size+wSum st ts<96 then 7 else 0
def wDelE (st:St) (ts:List ByteArray):Int:=if ts=[] then 0 else deleteE st ts
def wDelS (st:St) (ts:List ByteArray):St:=if ts=[] then st else deleteS st ts
def wCreS (st:St) (ts:List ByteArray):St:=createS (wDelS st ts) wS
def wBegE (st:St) (ts:List ByteArray):Int:=
 if wReadyE st ts=0 then (if wDelE st ts=0 then (if createE (wDelS st ts) wS=0 then writeE (wCreS st ts) wS 0 zeros96 else createE (wDelS st ts) wS) else wDelE st ts) else wReadyE st ts
def wBegS (st:St) (ts:List ByteArray):St:=
 if wReadyE st ts=0 then (if wDelE st ts=0 then (if createE (wDelS st ts) wS=0 then writeS (wCreS st ts) wS 0 zeros96 else wCreS st ts) else wDelS st ts) else st
theorem Good.len_le {n:Nat} {st:St} (h:Good n st) (nm:ByteArray):st.len nm≤st.size:=by
 unfold St.len
 split
 ·omega
 ·rename_i f hf
  have h1:f.bytes.length≤sumB st.fs:=mem_sumB (find_mem hf)
  have h2:st.size=sumB st.fs:=h.sum
  omega
theorem wSum_take (st:St) (ts:List ByteArray) {k:Nat} (h:k<ts.length):wSum st (ts.take (k+1))=wSum st (ts.take k)+st.len (ts.getD k ⟨#[]⟩):=by
 unfold wSum
 rw [List.take_add_one,List.getElem?_eq_getElem h,List.map_append,List.sum_append,List.getD_eq_getElem?_getD,List.getElem?_eq_getElem h]
 simp
theorem wSum_le {n:Nat} {st:St} (h:Good n st):∀ ts:List ByteArray,wSum st ts≤16777216*ts.length
 | []=>Nat.le_refl _
 | t :: ts=>by
  have h1:=wSum_le h ts
  have h2:=h.len_le t
  have h3:=h.size
  have h4:=h.cap
  unfold wSum at h1 ⊢
  rw [List.map_cons,List.sum_cons,List.length_cons]
  omega
theorem wstrs_form {w:World} {v:Value} {ts:List ByteArray} {b:Nat} (h:Strs w b v ts):∃ a cap,v = .slice a ts.length cap:=h.form
set_option maxHeartbeats 1000000 in
set_option maxRecDepth 100000 in
theorem wready_any (wb:Nat) (g:Gh) (st:St) (n:Nat) (v:Value) (ts:List ByteArray) (w:World) (hd:DiskAt w g st) (hg:Good n st) (hs:Strs w 0 v ts) (hl:ts.length≤1048576) (hm:∀ t∈ts,t.size≤maxLen) (hw:w.cell? ⟨wb,0,none⟩=some (.pointer (some ⟨g.d,0,none⟩))) :
 Calls Tryz.prog 160 #[.pointer (some ⟨wb,0,none⟩),v] w fun e w'=>e = .returned (.int .i64 (wReadyE st ts))∧∃ k,w'=w.drewN k:=by
 have hD:Calls Tryz.prog 99 #[.pointer (some ⟨g.d,0,none⟩)] w fun e w'=>e = .returned (.bool st.down)∧w=w':=down_any g st w hd
 have hR:=room_any g st w hd hg.size hg.cap
 obtain ⟨a,cap,rfl⟩:=wstrs_form hs
 obtain ⟨q,hq⟩:∃ q,q=st.down:=⟨_,rfl⟩
 have hsz:=hg.size
 have hcp:=hg.cap
 cases hdn:st.down with
 | true=>
  rw [hdn] at hD
  have HD:=Lib.hid hD
  have e:wReadyE st ts=8:=by unfold wReadyE;rw [if_pos hdn]
  rw [e]
  clear hD hR hd hg hs hdn e hq
  go_enter Tryz.func160,Tryz.ntmps160
  go_wp2_with fail
  refine HD.out.mono ?_
  rintro e w1 ⟨rfl,rfl⟩
  go_wp2_with fail
  go_ret
  exact ⟨rfl,0,rfl⟩
 | false=>
  rw [hdn] at hD
  obtain ⟨r,hr⟩:∃ r:Int,r=(st.cap:Int) - st.size:=⟨_,rfl⟩
  have e:wReadyE st ts=if r+wSum st ts<96 then 7 else 0:=by unfold wReadyE;rw [if_neg (by rw [hdn];simp),hr]
  have hr0:0≤r:=by omega
  have hr1:r≤16777216:=by omega
  rw [←hr] at hR
  have hLn:∀ k t,Calls Tryz.prog 152 #[.pointer (some ⟨g.d,0,none⟩),.string (ts.getD t ⟨#[]⟩)] (w.drewN k) fun e w'=>e = .returned (.int .i64 (st.len (ts.getD t ⟨#[]⟩)))∧w.drewN k=w':=fun k t=>len_any g st _ (w.drewN k) (hd.new ((Chg.refl _ w).drewN k)) (by
   rw [List.getD_eq_getElem?_getD]
   cases hx:ts[t]? with
   | none=>show (0:Nat)≤_;exact Nat.zero_le _
   | some y=>exact hm y (List.mem_of_getElem? hx))
  have hSt:∀ k,k<ts.length→wSum st (ts.take (k+1))=wSum st (ts.take k)+st.len (ts.getD k ⟨#[]⟩):=fun k hk=>wSum_take st ts hk
  have hSl:∀ k,k≤ts.length→wSum st (ts.take k)≤17592186044416:=fun k hk=>by
   have h1:=wSum_le hg (ts.take k)
   rw [List.length_take] at h1
   omega
  have hall:wSum st (ts.take ts.length)=wSum st ts:=by rw [List.take_of_length_le (Nat.le_refl _)]
  have hcl:∀ k,k<ts.length→∃ b o,a=some ⟨b,o,none⟩∧w.cell? ⟨b,o+k,none⟩=some (.string (ts.getD k ⟨#[]⟩)):=fun k hk=>hs.cellAt hk
  have HD:=Lib.hid hD
  have HR:=Lib.hid hR
  have HLN:=Lib.hid hLn
  have HST:=Lib.hid hSt
  have HSL:=Lib.hid hSl
  have HALL:=Lib.hid hall
  have HCL:=Lib.hid hcl
  obtain ⟨S,hS⟩:∃ S:Nat→Nat,S=fun k=>wSum st (ts.take k):=⟨_,rfl⟩
  have HS:=Lib.hid hS
  obtain ⟨E,hE⟩:∃ E,E=wReadyE st ts:=⟨_,rfl⟩
  rw [←hE] at e ⊢
  have HEQ:=Lib.hid e
  obtain ⟨N,hN⟩:∃ N,N=ts.length:=⟨_,rfl⟩
  have HN:=Lib.hid hN
  rw [←hN] at hl ⊢
  clear hD hR hLn hSt hSl hall hcl hd hg hs hm hdn e hE hq hS hr hN hsz hcp
  go_enter Tryz.func160,Tryz.ntmps160
  go_wp2_with fail
  refine HD.out.mono ?_
  rintro e w1 ⟨rfl,rfl⟩
  go_wp2_with fail
  refine HR.out.mono ?_
  rintro e w1 ⟨rfl,y,rfl⟩
  go_wp2_with fail
  go_loopw [5,20] (fun x i wr=>∃ (k s:Nat),k≤N∧x = .int .i64 (r+(s:Int))∧i = .int .i64 (k:Int)∧Hid (s=wSum st (ts.take k))∧wr=w.drewN y) (fun _ i _=>N - (intOf i).toNat)
  case atStart=>exact ⟨0,0,Nat.zero_le _,by simp,rfl,Lib.hid (by rw [List.take_zero];rfl),rfl⟩
  case round=>
   obtain ⟨k,s,hk,rfl,rfl,HSk,rfl⟩:=hrel
   by_cases hlt:k<N
   ·have hlt':(k:Int)<(N:Int):=by omega
    obtain ⟨b,o,rfl,hck⟩:=HCL.out k (by rw [←HN.out];exact hlt)
    have HL2:=Lib.hid (HLN.out y k)
    obtain ⟨t,ht⟩:∃ t,t=ts.getD k ⟨#[]⟩:=⟨_,rfl⟩
    rw [←ht] at hck HL2
    have h3:=HST.out k (by rw [←HN.out];exact hlt)
    have h4:=HSL.out (k+1) (by rw [←HN.out];omega)
    rw [←ht] at h3
    obtain ⟨z,hz⟩:∃ z,z=st.len t:=⟨_,rfl⟩
    rw [←hz] at h3 HL2
    have HS2:Hid (s+z=wSum st (ts.take (k+1))):=Lib.hid (by rw [h3,HSk.out])
    have h5:s+z≤17592186044416:=by rw [HS2.out];exact h4
    have e5:IntKind.i64.wrap (r+(s:Int)+(z:Int))=r+((s+z:Nat):Int):=by rw [IntWalk.i64_in _ (by omega)];omega
    have hck':(w.drewN y).cell? ⟨b,o+k,none⟩=some (.string t):=hck
    have hw':(w.drewN y).cell? ⟨wb,0,none⟩=some (.pointer (some ⟨g.d,0,none⟩)):=hw
    clear ht hz h3 h4 hlt
    go_wp2_with fail
    refine HL2.out.mono ?_
    rintro e w1 ⟨rfl,rfl⟩
    go_wp2_with fail
    exact ⟨⟨k+1,s+z,by omega,by go_num,by go_num,HS2,by first|rfl|trivial⟩,by simp [intOf];omega⟩
   ·obtain rfl:N=k:=by omega
    have h3:Hid (s=wSum st ts):=Lib.hid (by rw [HSk.out,HN.out,HALL.out])
    have h4:=HSL.out N (by rw [←HN.out];exact Nat.le_refl _)
    rw [←HSk.out] at h4
    by_cases h96:r+(s:Int)<96
    ·have HE:Hid (E=7):=Lib.hid (by rw [HEQ.out,←h3.out,if_pos h96])
     go_wp2_with fail
     go_ret
     exact ⟨by rw [HE.out];rfl,y,rfl⟩
    ·have HE:Hid (E=0):=Lib.hid (by rw [HEQ.out,←h3.out,if_neg h96])
     go_wp2_with fail
     go_ret
     exact ⟨by rw [HE.out];rfl,y,rfl⟩
end Go.Proofs.YtajmeimjaapagaaGreatDoor
namespace Go.Proofs.YtajmeimjaapagaaGreatDoor
open Go.RowKit Go.Deep
attribute [local go_sem] fr_opt
def WBegTo (g:Gh) (st:St) (ts:List ByteArray) (w:World) (e:Ending) (w':World):Prop:=e = .returned (.int .i64 (wBegE st ts))∧∃ g',DiskAt w' g' (wBegS st ts)∧Gh.To w g g' w'
theorem wDel_good {n:Nat} {st:St} (h:Good n st) (ts:List ByteArray):Good n (wDelS st ts):=by
 unfold wDelS
 split
 ·exact h
 ·exact h.delete ts
theorem wCre_good {n:Nat} {st:St} (h:Good n st) (ts:List ByteArray):Good (n+1) (wCreS st ts):=(wDel_good h ts).create wS
theorem deleteAll_mem:∀ (ts:List ByteArray) (st:St) (p:ByteArray×FileM),p∈(deleteAll st ts).fs→p∈st.fs
 | [],_,_,h=>h
 | t :: ts,st,p,h=>by
  have h1:p∈(removeS st t).fs:=deleteAll_mem ts _ p h
  exact (List.mem_filter.1 h1).1
theorem wbig {n:Nat} {st:St} (h:Good n st) {nm:ByteArray} {f:FileM} (hf:st.find nm=some f) (hn:n≤1000000):f.bytes.length≤1073741824∧f.writes.length≤1073741824:=by
 have h1:f.bytes.length≤sumB st.fs:=mem_sumB (find_mem hf)
 have h2:st.size=sumB st.fs:=h.sum
 have h3:=h.size
 have h4:=h.cap
 have h5:=(h.file hf).count
 exact ⟨by omega,by omega⟩
theorem repeat96 (W:World):Calls Tryz.prog 161 #[.string ⟨#[0]⟩,.int .i64 96] W fun e w'=>e = .returned (.string zeros96)∧Below W.heap.size W w':=by
 have:=Tryz.strings_Repeat ⟨#[0]⟩ 96 W (by decide) (by decide)
 have e:(⟨(Lib.repeatL (⟨#[0]⟩:ByteArray).data.toList 96).toArray⟩:ByteArray)=zeros96:=by decide +kernel
 rw [e] at this
 exact this
theorem ne_bool {k:Int} (h:¬ k=0):(k != 0)=true∧(k == 0)=false:=by simp [h]
set_option maxHeartbeats 4000000 in
set_option maxRecDepth 100000 in
theorem wbegin_any (wb:Nat) (g:Gh) (st:St) (n:Nat) (v:Value) (ts:List ByteArray) (w:World) (hd:DiskAt w g st) (hg:Good n st) (hn:n≤900000) (hs:Strs w 0 v ts) (ho:Out g v) (hl:ts.length≤1048576) (hm:∀ t∈ts,t.size≤maxLen) (x:Value)
 (hw:w.heap[wb]? = some (.cells #[.pointer (some ⟨g.d,0,none⟩),x] 135 (0,0))) (hout:wb∉g.fp) :
 Calls Tryz.prog 109 #[.pointer (some ⟨wb,0,none⟩),v] w (WBegTo g st ts w):=by
 have k0:w.cell? ⟨wb,0,none⟩=some (.pointer (some ⟨g.d,0,none⟩)):=by simp [World.cell?,hw]
 have hRd:=wready_any wb g st n v ts w hd hg hs hl hm k0
 have hkeep:∀ (W:World) (g':Gh),Gh.To w g g' W→W.cell? ⟨wb,0,none⟩=some (.pointer (some ⟨g.d,0,none⟩)):=fun W g' t=>by
  have:=t.chg.heap hw hout
  simp [World.cell?,this]
 have hDel:ts≠[]→∀ y,Calls Tryz.prog 101 #[.pointer (some ⟨g.d,0,none⟩),v] (w.drewN y) fun e w'=>e = .returned (.int .i64 (wDelE st ts))∧∃ g',DiskAt w' g' (wDelS st ts)∧Gh.To w g g' w':=fun hne y=>by
  have hc:Chg (fun _=>False) w (w.drewN y):=(Chg.refl _ w).drewN y
  have:=delete_any g st v ts (w.drewN y) (hd.new hc) hs ho hm (by omega) hg.fuse hg.sizeOk (by have:=hg.size;have:=hg.cap;omega)
  refine this.mono ?_
  rintro e w' ⟨he,g',hd',ht'⟩
  refine ⟨by rw [he];unfold wDelE;rw [if_neg hne],g',by unfold wDelS;rw [if_neg hne];exact hd',(Gh.To.new g hc).trans ht'⟩
 have hg1:=wDel_good hg ts
 have hg2:=wCre_good hg ts
 have hCre:∀ W g',DiskAt W g' (wDelS st ts)→Gh.To w g g' W→Calls Tryz.prog 69 #[.pointer (some ⟨g.d,0,none⟩),.string wS] W fun e w'=>e = .returned (.int .i64 (createE (wDelS st ts) wS))∧∃ g2,DiskAt w' g2 (wCreS st ts)∧Gh.To w g g2 w':=fun W g' hW ht=>by
  have:=create_any g' (wDelS st ts) wS W hW (by decide) hg1.fuse (by have:=hg1.len;omega)
  rw [ht.d] at this
  refine this.mono ?_
  rintro e w' ⟨he,g2,hd2,ht2⟩
  exact ⟨he,g2,hd2,ht.trans ht2⟩
 have hWr:∀ W g',DiskAt W g' (wCreS st ts)→Gh.To w g g' W→Calls Tryz.prog 81 #[.pointer (some ⟨g.d,0,none⟩),.string wS,.int .i64 0,.string zeros96] W fun e w'=>e = .returned (.int .i64 (writeE (wCreS st ts) wS 0 zeros96))∧∃ g2,DiskAt w' g2 (writeS (wCreS st ts) wS 0 zeros96)∧Gh.To w g g2 w':=fun W g' hW ht=>by
  have:=write_any g' (wCreS st ts) wS 0 zeros96 W hW (by decide) hg2.fuse (by rw [zeros96_size];decide) hg2.cap hg2.size (by have:=hg2.turn;omega) (fun f hf=>wbig hg2 hf (by omega))
  rw [ht.d] at this
  refine this.mono ?_
  rintro e w' ⟨he,g2,hd2,ht2⟩
  exact ⟨he,g2,hd2,ht.trans ht2⟩
 obtain ⟨a,cap,rfl⟩:=wstrs_form hs
 obtain ⟨E0,hE0⟩:∃ E,E=wReadyE st ts:=⟨_,rfl⟩
 obtain ⟨E1,hE1⟩:∃ E,E=wDelE st ts:=⟨_,rfl⟩
 obtain ⟨E2,hE2⟩:∃ E,E=createE (wDelS st ts) wS:=⟨_,rfl⟩
 obtain ⟨E3,hE3⟩:∃ E,E=writeE (wCreS st ts) wS 0 zeros96:=⟨_,rfl⟩
 have hEE:wBegE st ts=if E0=0 then (if E1=0 then (if E2=0 then E3 else E2) else E1) else E0:=by rw [hE0,hE1,hE2,hE3];rfl
 have hSS:wBegS st ts=if E0=0 then (if E1=0 then (if E2=0 then writeS (wCreS st ts) wS 0 zeros96 else wCreS st ts) else wDelS st ts) else st:=by rw [hE0,hE1,hE2];rfl
 have hnil:ts=[]→E1=0∧wDelS st ts=st:=fun h=>⟨by rw [hE1];unfold wDelE;rw [if_pos h],by unfold wDelS;rw [if_pos h]⟩
 rw [←hE0] at hRd
 rw [←hE1] at hDel
 rw [←hE2] at hCre
 rw [←hE3] at hWr
 have hout0:∀ y,E0≠0→WBegTo g st ts w (.returned (.int .i64 E0)) (w.drewN y):=fun y h=>⟨by rw [hEE,if_neg h],g,by rw [hSS,if_neg h];exact hd.new ((Chg.refl _ w).drewN y),Gh.To.new g ((Chg.refl _ w).drewN y)⟩
 have hout1:∀ W g',E0=0→E1≠0→DiskAt W g' (wDelS st ts)→Gh.To w g g' W→WBegTo g st ts w (.returned (.int .i64 E1)) W:=fun W g' h h1 hW ht=>⟨by rw [hEE,if_pos h,if_neg h1],g',by rw [hSS,if_pos h,if_neg h1];exact hW,ht⟩
 have hout2:∀ W g',E0=0→E1=0→E2≠0→DiskAt W g' (wCreS st ts)→Gh.To w g g' W→WBegTo g st ts w (.returned (.int .i64 E2)) W:=fun W g' h h1 h2 hW ht=>⟨by rw [hEE,if_pos h,if_pos h1,if_neg h2],g',by rw [hSS,if_pos h,if_pos h1,if_neg h2];exact hW,ht⟩
 have hout3:∀ W g',E0=0→E1=0→E2=0→DiskAt W g' (writeS (wCreS st ts) wS 0 zeros96)→Gh.To w g g' W→WBegTo g st ts w (.returned (.int .i64 E3)) W:=fun W g' h h1 h2 hW ht=>⟨by rw [hEE,if_pos h,if_pos h1,if_pos h2],g',by rw [hSS,if_pos h,if_pos h1,if_pos h2];exact hW,ht⟩
 have hd0:∀ y,ts=[]→DiskAt (w.drewN y) g (wDelS st ts)∧Gh.To w g g (w.drewN y):=fun y h=>⟨by rw [(hnil h).2];exact hd.new ((Chg.refl _ w).drewN y),Gh.To.new g ((Chg.refl _ w).drewN y)⟩
 obtain ⟨m,hm'⟩:∃ m,m=ts.length:=⟨_,rfl⟩
 have hmt:m=0→ts=[]:=fun h=>List.length_eq_zero_iff.1 (by omega)
 have hmn:m≠0→ts≠[]:=fun h hx=>h (by rw [hm',hx];rfl)
 rw [←hm'] at hRd hDel ⊢
 have HR:=Lib.hid hRd
 have HK:=Lib.hid hkeep
 have HDL:=Lib.hid hDel
 have HCR:=Lib.hid hCre
 have HWR:=Lib.hid hWr
 have HO0:=Lib.hid hout0
 have HO1:=Lib.hid hout1
 have HO2:=Lib.hid hout2
 have HO3:=Lib.hid hout3
 have HD0:=Lib.hid hd0
 have HNIL:=Lib.hid hnil
 have HMT:=Lib.hid hmt
 have HMN:=Lib.hid hmn
 have HDI:=Lib.hid hd
 clear hRd hkeep hDel hg1 hg2 hCre hWr hE0 hE1 hE2 hE3 hEE hSS hnil hout0 hout1 hout2 hout3 hd0 hm' hmt hmn hd hg hn hs ho hm hw hout
 -- what stands behind the deletion
 have htail:∀ W g',E0=0→E1=0→DiskAt W g' (wDelS st ts)→Gh.To w g g' W→Hid (W.cell? ⟨wb,0,none⟩=some (.pointer (some ⟨g.d,0,none⟩))∧Calls Tryz.prog 69 #[.pointer (some ⟨g.d,0,none⟩),.string wS] W fun e w'=>e = .returned (.int .i64 E2)∧∃ g2,DiskAt w' g2 (wCreS st ts)∧Gh.To w g g2 w'):=fun W g' _ _ hW ht=>Lib.hid ⟨HK.out W g' ht,HCR.out W g' hW ht⟩
 have HT:=Lib.hid htail
 clear htail
 go_enter Tryz.func109,Tryz.ntmps109
 go_wp2_with fail
 refine HR.out.mono ?_
 rintro e w1 ⟨rfl,y,rfl⟩
 have k0:(w.drewN y).cell? ⟨wb,0,none⟩=some (.pointer (some ⟨g.d,0,none⟩)):=k0
 by_cases h0:E0=0
 ·have H0:=Lib.hid h0
  subst h0
  go_upto_if 16 with fail
  go_cut [] (fun wx=>∃ g',Hid (DiskAt wx g' (wDelS st ts))∧Hid (Gh.To w g g' wx)∧Hid (E1=0))
  case first=>
   by_cases hm0:m=0
   ·have HTS:=Lib.hid (HMT.out hm0)
    subst hm0
    go_wp2_with fail
    go_meet
    exact ⟨g,Lib.hid (HD0.out y HTS.out).1,Lib.hid (HD0.out y HTS.out).2,Lib.hid (HNIL.out HTS.out).1⟩
   ·have hpos:0<m:=by omega
    have HD:=Lib.hid (HDL.out (HMN.out hm0) y)
    clear hm0
    go_wp2_with fail
    refine HD.out.mono ?_
    rintro e w2 ⟨rfl,g2,hd2,ht2⟩
    by_cases h1:E1=0
    ·have HX:Hid (DiskAt w2 g2 (wDelS st ts)∧Gh.To w g g2 w2):=Lib.hid ⟨hd2,ht2⟩
     have H1:=Lib.hid h1
     clear hd2 ht2
     subst h1
     go_wp2_with fail
     go_meet
     exact ⟨g2,Lib.hid HX.out.1,Lib.hid HX.out.2,H1⟩
    ·have HX:Hid (WBegTo g st ts w (.returned (.int .i64 E1)) w2):=Lib.hid (HO1.out w2 g2 H0.out h1 hd2 ht2)
     obtain ⟨b1,b2⟩:=ne_bool h1
     clear hd2 ht2 h1
     go_wp2_with fail
     go_ret
     exact HX.out
  case rest=>
   obtain ⟨g2,HD2,HT2,HE1⟩:=hcut
   obtain ⟨k2,HC⟩:=(HT.out wc g2 H0.out HE1.out HD2.out HT2.out).out
   have HC:=Lib.hid HC
   go_wp2_with fail
   refine HC.out.mono ?_
   rintro e w3 ⟨rfl,g3,hd3,ht3⟩
   by_cases h2:E2=0
   ·have k3:=HK.out w3 g3 ht3
    have HX:Hid (DiskAt w3 g3 (wCreS st ts)∧Gh.To w g g3 w3):=Lib.hid ⟨hd3,ht3⟩
    have H2:=Lib.hid h2
    clear hd3 ht3
    subst h2
    go_upto_region 11 with fail
    have HWR':Hid (∀ W,Below w3.heap.size w3 W→Calls Tryz.prog 81 #[.pointer (some ⟨g.d,0,none⟩),.string wS,.int .i64 0,.string zeros96] W (fun e w'=>e = .returned (.int .i64 E3)∧Hid (WBegTo g st ts w (.returned (.int .i64 E3)) w'∧∀ q,WBegTo g st ts w (.returned (.int .i64 E3)) (w'.drewN q))∧w'.cell? ⟨wb,0,none⟩=some (.pointer (some ⟨g.d,0,none⟩)))):=Lib.hid (fun W hW=>by
     refine (HWR.out W g3 (HX.out.1.new (Chg.of_below hW)) (HX.out.2.trans (Gh.To.new g3 (Chg.of_below hW)))).mono ?_
     rintro e w5 ⟨rfl,g5,hd5,ht5⟩
     exact ⟨rfl,Lib.hid ⟨HO3.out w5 g5 H0.out HE1.out H2.out hd5 ht5,fun q=>HO3.out _ g5 H0.out HE1.out H2.out (hd5.new ((Chg.refl _ _).drewN q)) (ht5.trans (Gh.To.new g5 ((Chg.refl _ _).drewN q)))⟩,HK.out w5 g5 ht5⟩)
    go_region_held3 (fun w'=>w'.cell? ⟨wb,0,none⟩=some (.pointer (some ⟨g.d,0,none⟩)))
     (first|exact k3|go_keep)
     (first
      | (go_at_call 161
         refine (repeat96 _).mono ?_
         rintro e w2 ⟨rfl,hb2⟩
         have k3:=(hb2.cell (p:=⟨wb,0,none⟩) (World.block_lt_of_cell? _ _ k3)).trans k3
         have HB2:=Lib.hid hb2
         clear hb2)
      | (go_at_call 81
         refine (HWR'.out _ ?_).mono ?_
         ·repeat (first|exact Below.refl _ _|with_reducible refine below_drewN ?_ _|with_reducible refine Below.drew ?_|(refine Below.trans ?_ (HB2.out.mono ?_))|exact Nat.le_refl _)
         rintro e w5 ⟨rfl,HFN,k3⟩))
    all_goals
     go_wp2_with fail
     go_ret
     first|exact HFN.out.1|exact HFN.out.2 1|exact HFN.out.2 _
   ·have HX:Hid (WBegTo g st ts w (.returned (.int .i64 E2)) w3):=Lib.hid (HO2.out w3 g3 H0.out HE1.out h2 hd3 ht3)
    obtain ⟨b1,b2⟩:=ne_bool h2
    clear hd3 ht3 h2
    go_wp2_with fail
    go_ret
    exact HX.out
 ·have HX:=Lib.hid (HO0.out y h0)
  obtain ⟨b1,b2⟩:=ne_bool h0
  clear h0
  go_wp2_with fail
  go_ret
  exact HX.out
end Go.Proofs.YtajmeimjaapagaaGreatDoor
namespace Go.Proofs.YtajmeimjaapagaaGreatDoor
open Go.RowKit Go.Deep
attribute [local go_sem] fr_opt
def WNewTo (w:World) (g:Gh) (st:St) (hand:Int) (e:Ending) (w':World):Prop:=
 ∃ g',DiskAt w' g' (wBegS st (wNames wH st))∧Gh.To w g g' w' ∧
  ((wBegE st (wNames wH st)≠0→e = .returned (.tuple #[.pointer none,.int .i64 (wBegE st (wNames wH st))])) ∧
   (wBegE st (wNames wH st)=0→∃ wb,e = .returned (.tuple #[.pointer (some ⟨wb,0,none⟩),.int .i64 0])∧w.heap.size≤wb∧wb∉g'.fp∧w'.heap[wb]? = some (.cells #[.pointer (some ⟨g.d,0,none⟩),.int .i64 hand] 135 (0,0))))
set_option maxHeartbeats 2000000 in
set_option maxRecDepth 100000 in
theorem wnew_any (g:Gh) (st:St) (n:Nat) (hand:Int) (w:World) (hd:DiskAt w g st) (hg:Good n st) (hn:n≤900000) (hm:∀ p∈st.fs,p.1.size≤maxLen) (h0:0≤hand) (h1:hand≤1099511627776) :
 Calls Tryz.prog 68 #[.pointer (some ⟨g.d,0,none⟩),.int .i64 hand] w (WNewTo w g st hand):=by
 obtain ⟨W1,hW1⟩:∃ W,W=w.alloc (.cells #[.pointer (some ⟨g.d,0,none⟩),.int .i64 hand] 135):=⟨_,rfl⟩
 have hq1:W1.heap[w.heap.size]? = some (.cells #[.pointer (some ⟨g.d,0,none⟩),.int .i64 hand] 135 (0,0)):=by
  rw [hW1]
  exact heap_alloc_new w _
 have hc1:Chg (fun _=>False) w W1:=by
  rw [hW1]
  exact Chg.alloc (fun _=>False) (Chg.refl _ w) _
 have hsz1:W1.heap.size=w.heap.size+1:=by rw [hW1,World.size_alloc]
 have hout:w.heap.size∉g.fp:=fun hx=>(by have:=hd.lt _ hx;omega)
 have hd1:=hd.new hc1
 have hL:=wlist_any g st wH W1 hd1 (by have:=hg.len;omega)
 have hlen:(wNames wH st).length≤1048576:=by have:=wNames_length wH st;have:=hg.len;omega
 have hB:∀ W v,Below W1.heap.size W1 W→Strs W W1.heap.size v (wNames wH st)→Calls Tryz.prog 109 #[.pointer (some ⟨w.heap.size,0,none⟩),v] W (WBegTo g st (wNames wH st) W):=fun W v hb hs=>by
  have hcw:Chg (fun _=>False) W1 W:=Chg.of_below hb
  refine wbegin_any w.heap.size g st n v _ W (hd1.new hcw) hg hn hs.zero (fun q o len cap hv hl hx=>?_) hlen (fun t ht=>?_) (.int .i64 hand) (hcw.heap hq1 (fun x=>x)) hout
  ·obtain ⟨a,c,e,h⟩:=hs
   rw [e] at hv
   cases hv
   rcases h with h|⟨q',o',hq,hb2,_⟩
   ·rw [h] at hl;exact absurd hl (by simp)
   ·cases hq
    have h3:=hd.lt _ hx
    omega
  ·obtain ⟨p,hp,rfl,_⟩:=wNames_mem ht
   exact hm p hp
 obtain ⟨ts,hts⟩:∃ ts,ts=wNames wH st:=⟨_,rfl⟩
 rw [←hts] at hL hB
 obtain ⟨E,hE⟩:∃ E,E=wBegE st ts:=⟨_,rfl⟩
 have hfin:∀ W2 W3 e3,Below W1.heap.size W1 W2→WBegTo g st ts W2 e3 W3→e3 = .returned (.int .i64 E)∧(E≠0→WNewTo w g st hand (.returned (.tuple #[.pointer none,.int .i64 E])) W3)∧(E=0→WNewTo w g st hand (.returned (.tuple #[.pointer (some ⟨w.heap.size,0,none⟩),.int .i64 0])) W3):=fun W2 W3 e3 hb ⟨he,g3,hd3,ht3⟩=>by
  have hc2:Chg (fun _=>False) w W2:=hc1.trans (Chg.of_below hb:Chg (fun _=>False) W1 W2) (fun _ _ x=>x)
  have ht:=(Gh.To.new g hc2).trans ht3
  rw [hts] at hd3 hE
  refine ⟨by rw [he,hE,hts],fun hne=>⟨g3,hd3,ht,fun _=>by rw [hE],fun hx=>absurd hx (by rw [←hE];exact hne)⟩,fun heq=>⟨g3,hd3,ht,fun hx=>absurd heq (by rw [hE];exact hx),fun _=>⟨w.heap.size,rfl,Nat.le_refl _,fun hx=>?_,?_⟩⟩⟩
  ·rcases ht3.fp _ hx with a|a
   ·exact hout a
   ·have:=hb.size;omega
  ·exact ht3.chg.heap ((Chg.of_below hb:Chg (fun _=>False) W1 W2).heap hq1 (fun x=>x)) hout
 have k0:W1.cell? ⟨w.heap.size,0,none⟩=some (.pointer (some ⟨g.d,0,none⟩)):=by simp [World.cell?,hq1]
 have g0:decide (hand<0)=false:=decide_eq_false (by omega)
 have g1:decide (1099511627776<hand)=false:=decide_eq_false (by omega)
 have g2:¬ hand<0:=by omega
 have g3:¬ 1099511627776<hand:=by omega
 obtain ⟨d,hdd⟩:∃ d,d=g.d:=⟨_,rfl⟩
 rw [←hdd] at hW1 hL k0 ⊢
 have HL:=Lib.hid hL
 have HB:=Lib.hid hB
 have HF:=Lib.hid hfin
 have HW1:=Lib.hid hW1
 clear hL hB hfin hq1 hc1 hsz1 hout hd1 hlen hts hE hd hg hn hm hW1 hdd h0 h1
 go_enter Tryz.func68,Tryz.ntmps68
 go_upto_region 5 with fail
 rw [←HW1.out]
 go_wp2_with fail
 refine HL.out.mono ?_
 rintro e w2 ⟨v,rfl,hs2,hb2⟩
 have HC:=Lib.hid (HB.out w2 v hb2 hs2)
 have HB2:=Lib.hid hb2
 clear hs2 hb2
 go_wp2_with fail
 refine HC.out.mono ?_
 intro e3 w3 h3
 obtain ⟨rfl,hf1,hf2⟩:=HF.out w2 w3 e3 HB2.out h3
 have HF1:=Lib.hid hf1
 have HF2:=Lib.hid hf2
 clear h3 hf1 hf2
 by_cases hE:E=0
 ·have HX:=Lib.hid (HF2.out hE)
  subst hE
  go_wp2_with fail
  go_ret2
  exact HX.out
 ·have HX:=Lib.hid (HF1.out hE)
  obtain ⟨b1,b2⟩:=ne_bool hE
  clear hE
  go_wp2_with fail
  go_ret2
  exact HX.out
structure WMade (st st':St) (ts:List ByteArray):Prop where
 find:∃ f,st'.find wS=some f∧f.bytes=wbytes (List.replicate 16 0)
 cap:st'.cap=st.cap
 fs:∃ f,st'.fs=(deleteAll st ts).fs ++ [(wS,f)]
theorem wdeleteAll_find_none {st:St} {ts:List ByteArray} {nm:ByteArray} (h:nm∈ts∨st.find nm=none):(deleteAll st ts).find nm=none:=by
 induction ts generalizing st with
 | nil=>rcases h with h|h;· cases h
        ·exact h
 | cons t ts ih=>
  refine ih (st:=removeS st t) ?_
  by_cases ht:nm=t
  ·right
   subst ht
   unfold St.find removeS
   rw [Option.map_eq_none_iff,List.find?_eq_none]
   intro p hp
   have:=(List.mem_filter.1 hp).2
   simpa using this
  ·rcases h with h|h
   ·rcases List.mem_cons.1 h with h|h
    ·exact absurd h ht
    ·exact .inl h
   ·right
    unfold St.find removeS
    show (List.find? _ (dropF st.fs t)).map _=none
    rw [find_dropF ht]
    exact h
theorem wdeleteAll_lit:∀ (ts:List ByteArray) (st:St),(deleteAll st ts).lit=st.lit∧(deleteAll st ts).down=st.down∧(deleteAll st ts).cap=st.cap
 | [],_=>⟨rfl,rfl,rfl⟩
 | t :: ts,st=>wdeleteAll_lit ts (removeS st t)
theorem wdel_ease {n:Nat} {st:St} (h:Ease n st) {ts:List ByteArray} (hf:∀ t∈ts,(st.find t).isSome=true):wDelE st ts=0∧wDelS st ts=deleteAll st ts∧Ease n (deleteAll st ts):=by
 obtain ⟨a,b,c⟩:=wdeleteAll_lit ts st
 have he:Ease n (deleteAll st ts):=⟨h.good.deleteAll ts,a.trans h.lit,b.trans h.down⟩
 by_cases h0:ts=[]
 ·subst h0
  exact ⟨by unfold wDelE;rw [if_pos rfl],by unfold wDelS;rw [if_pos rfl];rfl,he⟩
 ·have hr:readyE st ts=0:=by
   unfold readyE
   rw [if_neg (by rw [h.down];simp),if_pos (List.all_eq_true.2 hf)]
  refine ⟨?_,?_,he⟩
  ·unfold wDelE deleteE
   rw [if_neg h0,if_pos hr,h.burnE]
  ·unfold wDelS deleteS
   rw [if_neg h0,if_pos hr,if_pos h.burnE,h.burnS]
theorem wmade {n:Nat} {st:St} (h:Ease n st) (hr:96≤(st.cap:Int) - st.size):wBegE st (wNames wH st)=0∧Ease (n+2) (wBegS st (wNames wH st))∧WMade st (wBegS st (wNames wH st)) (wNames wH st):=by
 obtain ⟨ts,hts⟩:∃ ts,ts=wNames wH st:=⟨_,rfl⟩
 have hmem:∀ p∈st.fs,p.1=wS→wS∈ts:=fun p hp e=>by
  have h1:Lib.hasPrefix p.1.data.toList wH.data.toList=true:=by rw [e];decide
  have:=wNames_of (head:=wH) hp h1
  rw [←hts,e] at this
  exact this
 have hfound:∀ t∈ts,(st.find t).isSome=true:=fun t ht=>by
  rw [hts] at ht
  obtain ⟨p,hp,rfl,_⟩:=wNames_mem ht
  unfold St.find
  rw [Option.isSome_map,List.find?_isSome]
  exact ⟨p,hp,by simp⟩
 rw [←hts]
 obtain ⟨d1,d2,d3⟩:=wdel_ease h hfound
 have hnone:(deleteAll st ts).find wS=none:=by
  refine wdeleteAll_find_none ?_
  by_cases hx:∃ p∈st.fs,p.1=wS
  ·obtain ⟨p,hp,e⟩:=hx
   exact .inl (hmem p hp e)
  ·right
   unfold St.find
   rw [Option.map_eq_none_iff,List.find?_eq_none]
   intro p hp
   have:p.1≠wS:=fun e=>hx ⟨p,hp,e⟩
   simp [this]
 obtain ⟨c1,c2,c3⟩:=ease_createF d3 hnone
 have hc:wCreS st ts=createS (deleteAll st ts) wS:=by unfold wCreS;rw [d2]
 have hfc:(createS (deleteAll st ts) wS).find wS=some emptyF:=by
  rw [c2]
  unfold St.find at hnone ⊢
  rw [List.find?_append]
  rw [Option.map_eq_none_iff] at hnone
  rw [hnone]
  simp
 have hcap:(deleteAll st ts).cap=st.cap:=(wdeleteAll_lit ts st).2.2
 have hsz:(deleteAll st ts).size≤st.size:=by
  have:∀ (ts:List ByteArray) (s:St),(deleteAll s ts).size≤s.size:=by
   intro ts
   induction ts with
   | nil=>intro s;exact Nat.le_refl _
   | cons t ts ih=>intro s;exact Nat.le_trans (ih (removeS s t)) (Nat.sub_le _ _)
  exact this ts st
 have hmo:more emptyF 0 zeros96.size=96:=by rw [zeros96_size];decide
 have hcc:(createS (deleteAll st ts) wS).cap=st.cap:=by rw [c2];exact hcap
 have hcs:(createS (deleteAll st ts) wS).size≤st.size:=by rw [c2];exact hsz
 obtain ⟨w1,w2,w3⟩:=ease_writeA c3 (a:=0) (s:=zeros96) hfc (Nat.zero_le _) (by rw [hmo];omega) (by rw [zeros96_size];decide)
 have hrd:wReadyE st ts=0:=by
  unfold wReadyE
  rw [if_neg (by rw [h.down];simp),if_neg (by have:(0:Int)≤(wSum st ts:Nat):=Int.natCast_nonneg _;omega)]
 have eE:wBegE st ts=0:=by
  unfold wBegE
  rw [if_pos hrd,if_pos d1,d2,if_pos c1,hc]
  exact w1
 have eS:wBegS st ts=writeS (createS (deleteAll st ts) wS) wS ((0:Nat):Int) zeros96:=by
  unfold wBegS
  rw [if_pos hrd,if_pos d1,d2,if_pos c1,hc]
  rfl
 refine ⟨eE,by rw [eS];exact w3,⟨⟨_,by rw [eS,w2];exact wfind_same hfc,?_⟩,by rw [eS,w2];exact hcc,?_⟩⟩
 ·show putB [] 0 zeros96.data.toList=_
  rw [←zeros96_bytes]
  decide +kernel
 ·rw [eS,w2,c2]
  have hnn:wS∉((deleteAll st ts).fs).map (·.1):=find_none (by
   have:((deleteAll st ts).fs.find? fun p=>decide (p.1=wS)).map (·.2)=none:=hnone
   rw [this];simp)
  refine ⟨addF emptyF ⟨((createS (deleteAll st ts) wS).turn:Int)+1,0,zeros96⟩,?_⟩
  show setF ((deleteAll st ts).fs ++ [(wS,emptyF)]) wS _=_
  have e:∀ F,setF ((deleteAll st ts).fs ++ [(wS,emptyF)]) wS F=setF (deleteAll st ts).fs wS F ++ setF [(wS,emptyF)] wS F:=fun F=>by unfold setF;rw [List.map_append]
  rw [e,setF_none _ hnn]
  unfold setF
  rw [List.map_cons,if_pos rfl,←c2]
  rfl
end Go.Proofs.YtajmeimjaapagaaGreatDoor
