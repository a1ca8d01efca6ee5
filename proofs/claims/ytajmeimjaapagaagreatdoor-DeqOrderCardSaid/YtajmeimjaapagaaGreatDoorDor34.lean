/- A part. -/
import Derived.StillTailTactics
import Derived.Test.YtajmeimjaapagaaGreatDoorDor33
set_option linter.unusedVariables false
set_option linter.unusedSimpArgs false
namespace Go.Proofs.YtajmeimjaapagaaGreatDoor
open Go.RowKit Go.Deep
def removeS (st:St) (nm:ByteArray):St:={ st with size:=st.size - st.len nm,fs:=dropF st.fs nm }
def RemoveTo (g:Gh) (st:St) (nm:ByteArray) (w:World) (e:Ending) (w':World):Prop:=
 e = .returned (.tuple #[])∧DiskAt w' { g with es:=without g.es nm } (removeS st nm)∧Gh.To w g { g with es:=without g.es nm } w'
set_option maxHeartbeats 1000000 in
set_option maxRecDepth 100000 in
theorem remove_any (g:Gh) (st:St) (nm:ByteArray) (w:World) (h:DiskAt w g st) (hm:nm.size≤maxLen) (hl:st.len nm≤st.size) (hs:st.size≤16777216) :
 Calls Tryz.prog 153 #[.pointer (some ⟨g.d,0,none⟩),.string nm] w (RemoveTo g st nm w):=by
 obtain ⟨c0,c1,c2,c3,c4,c5,c6,hz⟩:=h.cells
 have z4:=hz 4
 have H:=Lib.hid h
 obtain ⟨n,hn⟩:∃ n,n=st.len nm:=⟨_,rfl⟩
 rw [←hn] at hl
 have hc:∀ w',DiskAt w' g st→Calls Tryz.prog 152 #[.pointer (some ⟨g.d,0,none⟩),.string nm] w' fun e w''=>e = .returned (.int .i64 n)∧w'=w'':=fun w' h'=>hn▸len_any g st nm w' h' hm
 have hw:IntKind.i64.wrap ((st.size:Int) - (n:Int))=(st.size:Int) - n:=IntWalk.i64_in _ (by omega)
 have HC:=Lib.hid hc
 have HN:=Lib.hid hn
 clear hz h hc hn
 go_enter Tryz.func153,Tryz.ntmps153
 go_wp2_with fail
 go_still_tail 10,(by kernel_rfl)
 still_call ((HC.out _ H.out.drew).mono fun _ _ h=>⟨h.1,h.2.symm⟩)
 repeat still_step
 refine wpStill_nil ?_
 change wpList _ _ _ _ _ w.drew
 clear c0 c1 c2 c3 c4 c5
 have hd:=H.out.drew
 have hT:=Gh.To.new g (Chg.refl (fun _=>False) w).drew
 generalize w.drew=w2 at hd hT ⊢
 have c4:=hd.cells.2.2.2.2.1
 have z4':=hd.cells.2.2.2.2.2.2.2 4
 have hs2:=hd.set 4 (.int .i64 ((st.size:Int) - n)) { st with size:=st.size - n } rfl (by
  rw [show ((st.size:Int) - n)=((st.size - n:Nat):Int) by omega];rfl)
 have e6:=hs2.1.cells.2.2.2.2.2.2.1
 have HS:=Lib.hid hs2
 have HT:=Lib.hid hT
 clear hd hT hs2 z4 c6
 go_wp2_with (with_reducible refine wpList_drop_ent rfl (.tmp 17) (.tmp 18) rfl g.mb g.es nm rfl rfl HS.out.1.map hm ?c1)
 case c1=>
  intro w4 hm4 hg4
  have hd4:=HS.out.1.drop nm hm4 hg4
  have HD4:=Lib.hid hd4
  clear hd4 hm4 hg4
  go_wp2_with fail
  go_end0
  refine ⟨rfl,?_,(HT.out.trans HS.out.2).trans HD4.out.2⟩
  have:=HD4.out.1
  unfold removeS
  rw [←HN.out]
  exact this
def deleteE (st:St) (ts:List ByteArray):Int:=if readyE st ts=0 then burnE st else readyE st ts
def deleteAll (st:St) (ts:List ByteArray):St:=ts.foldl removeS st
def deleteS (st:St) (ts:List ByteArray):St:=if readyE st ts=0 then (if burnE st=0 then deleteAll (burnS st) ts else burnS st) else st
theorem deleteAll_snoc (st:St) (ts:List ByteArray) (t:ByteArray):deleteAll st (ts ++ [t])=removeS (deleteAll st ts) t:=by simp [deleteAll]
def SizeOk (st:St):Prop:=st.size=(st.fs.map fun p=>p.2.bytes.length).sum∧(st.fs.map (·.1)).Nodup
def lenF (fs:List (ByteArray×FileM)) (nm:ByteArray):Nat:=match (fs.find? fun p=>decide (p.1=nm)).map (·.2) with|none=>0|some f=>f.bytes.length
theorem len_eq (st:St) (nm:ByteArray):st.len nm=lenF st.fs nm:=by unfold St.len lenF St.find;rfl
theorem len_split {fs:List (ByteArray×FileM)} (hn:(fs.map (·.1)).Nodup) (nm:ByteArray) :
 (dropF fs nm |>.map fun p=>p.2.bytes.length).sum+lenF fs nm=(fs.map fun p=>p.2.bytes.length).sum:=by
 induction fs with
 | nil=>rfl
 | cons a fs ih=>
  rw [List.map_cons,List.nodup_cons] at hn
  unfold dropF lenF at ih ⊢
  rw [List.filter_cons,List.find?_cons]
  by_cases h:a.1=nm
  ·have hx:∀ x∈fs,(!decide (x.1=nm))=true:=fun x hx=>by
    have:x.1≠nm:=fun e=>hn.1 (h▸e▸List.mem_map_of_mem hx)
    simp [this]
   rw [if_neg (by simp [h]),filter_id hx]
   simp [h]
   omega
  ·rw [if_pos (by simp [h])]
   have h':decide (a.1=nm)=false:=by simp [h]
   rw [h']
   have:=ih hn.2
   simp only [List.map_cons,List.sum_cons]
   omega
theorem SizeOk.len {st:St} (h:SizeOk st) (nm:ByteArray):st.len nm≤st.size:=by
 have:=len_split h.2 nm
 rw [len_eq,h.1]
 omega
theorem SizeOk.remove {st:St} (h:SizeOk st) (nm:ByteArray):SizeOk (removeS st nm):=by
 refine ⟨?_,(List.filter_sublist.map _).nodup h.2⟩
 have:=len_split h.2 nm
 have h1:=h.1
 unfold removeS
 simp only
 rw [len_eq]
 omega
theorem removeS_le (st:St) (nm:ByteArray):(removeS st nm).size≤st.size:=Nat.sub_le _ _
theorem SizeOk.deleteAll {st:St} (h:SizeOk st) (ts:List ByteArray):SizeOk (deleteAll st ts)∧(deleteAll st ts).size≤st.size:=by
 unfold Go.Proofs.YtajmeimjaapagaaGreatDoor.deleteAll
 induction ts generalizing st with
 | nil=>exact ⟨h,Nat.le_refl _⟩
 | cons t ts ih=>
  rw [List.foldl_cons]
  have:=ih (h.remove t)
  exact ⟨this.1,Nat.le_trans this.2 (removeS_le st t)⟩
theorem SizeOk.burn {st:St} (h:SizeOk st):SizeOk (burnS st):=by
 unfold SizeOk
 rw [burnS_size,burnS_fs]
 exact h
def Out (g:Gh) (v:Value):Prop:=∀ b o len cap,v = .slice (some ⟨b,o,none⟩) len cap→0<len→b∉g.fp
theorem strs_to {w w':World} {g g':Gh} {v:Value} {ts:List ByteArray} (hs:Strs w 0 v ts) (ho:Out g v) (ht:Gh.To w g g' w'):Strs w' 0 v ts:=by
 obtain ⟨a,cap,rfl,h⟩:=hs
 refine ⟨a,cap,rfl,?_⟩
 rcases h with h|⟨b,o,rfl,hb0,h⟩
 ·exact .inl h
 ·exact .inr ⟨b,o,rfl,hb0,fun i hi=>ht.chg.cell (h i hi) (ho b o _ _ rfl (by omega))⟩
set_option maxHeartbeats 1000000 in
set_option maxRecDepth 100000 in
theorem delete_any (g:Gh) (st:St) (v:Value) (ts:List ByteArray) (w:World) (h:DiskAt w g st) (hs:Strs w 0 v ts) (ho:Out g v) (hm:∀ t∈ts,t.size≤maxLen) (hl:ts.length≤1099511627776) (hf:FuseOk st) (hz:SizeOk st) (hcap:st.size≤16777216) :
 Calls Tryz.prog 101 #[.pointer (some ⟨g.d,0,none⟩),v] w (OpTo g (deleteE st ts) (deleteS st ts) w):=by
 have hr:=ready_any g st v ts w h hs hm hl
 obtain ⟨k0,hk0⟩:∃ k,k=readyE st ts:=⟨_,rfl⟩
 have hk:k0=0∨(k0 == 0)=false:=by by_cases h:k0=0<;>simp [h]
 rw [show ReadyTo st ts=fun w e w'=>e = .returned (.int .i64 k0)∧w=w' from by unfold ReadyTo;rw [←hk0]] at hr
 obtain ⟨a,cap,rfl⟩:=hs.form
 obtain ⟨n,hn⟩:∃ n,n=ts.length:=⟨_,rfl⟩
 rw [←hn] at hr hl hs ho ⊢
 have HR:=Lib.hid hr
 have HK0:=Lib.hid hk0
 have H:=Lib.hid h
 have HS:=Lib.hid hs
 have HO:=Lib.hid ho
 have HM:=Lib.hid hm
 have HN:=Lib.hid hn
 have HZ:=Lib.hid hz
 clear hr h hs ho hm hn hz hk0
 rcases hk with rfl|hk
 ·have hb:=burn_any g st w H.out hf.1 hf.2
  obtain ⟨k,hk⟩:∃ k,k=burnE st:=⟨_,rfl⟩
  have hk8:=burn_k st
  rw [←hk] at hk8
  have HB:=Lib.hid (burn_to hk hb)
  have HK:=Lib.hid hk
  clear hb hk hf
  rcases hk8 with rfl|rfl
  ·go_enter Tryz.func101,Tryz.ntmps101
   go_wp2_with (first|(go_at_call 111;refine HR.out.mono ?_;rintro e w' ⟨rfl,rfl⟩)|(go_at_call 112;refine HB.out.mono ?_;rintro e w1 ⟨rfl,hd1,ht1⟩))
   have HD1:=Lib.hid hd1
   have HT1:=Lib.hid ht1
   clear hd1 ht1
   go_loopw [24] (fun i wr=>∃ k:Nat,k≤n∧i = .int .i64 k∧∃ g1,DiskAt wr g1 (deleteAll (burnS st) (ts.take k))∧Gh.To w g g1 wr) (fun i _=>n - (intOf i).toNat)
   case atStart=>exact ⟨0,Nat.zero_le _,rfl,g,HD1.out,HT1.out⟩
   case round=>
    obtain ⟨k,hk,rfl,g1,hd,ht⟩:=hrel
    have hgd:=ht.d
    have hs:=strs_to HS.out HO.out ht
    have HD:=Lib.hid hd
    have HT:=Lib.hid ht
    clear hd ht
    by_cases hlt:k<n
    ·have hlt':k<ts.length:=by rw [←HN.out];exact hlt
     obtain ⟨b,o,hbo,hcell⟩:=(HN.out▸hs:Strs wr 0 (.slice a n cap) ts).cellAt hlt'
     obtain ⟨t,ht⟩:∃ t,t=ts.getD k ⟨#[]⟩:=⟨_,rfl⟩
     rw [←ht] at hcell
     subst hbo
     have hmem:t∈ts:=by rw [ht,List.getD_eq_getElem?_getD,List.getElem?_eq_getElem hlt'];exact List.getElem_mem hlt'
     have htk:ts.take (k+1)=ts.take k ++ [t]:=by rw [take_snoc' ts hlt',ht]
     have hmt:=HM.out t hmem
     have hok:=(HZ.out.burn).deleteAll (ts.take k)
     rw [burnS_size] at hok
     have hrem:=remove_any g1 _ t wr HD.out hmt (hok.1.len t) (Nat.le_trans hok.2 hcap)
     rw [hgd] at hrem
     have HREM:=Lib.hid hrem
     have HTK:=Lib.hid htk
     have HGD:=Lib.hid hgd
     clear hs ht hmem htk hrem hgd hok hmt hlt'
     go_wp2_with (go_at_call 153;refine HREM.out.mono ?_;rintro e w2 ⟨rfl,hd2,ht2⟩)
     have HD2:=Lib.hid hd2
     have HT2:=Lib.hid ht2
     clear hd2 ht2
     go_wp2_with fail
     refine ⟨⟨k+1,by omega,by go_num,_,?_,HT.out.trans HT2.out⟩,by simp [intOf];omega⟩
     rw [HTK.out,deleteAll_snoc]
     exact HD2.out
    ·have hkn:k=n:=by omega
     have HKN:=Lib.hid hkn
     clear hkn hs hgd
     go_wp2_with fail
     go_ret
     have hd:=HD.out
     rw [HKN.out,HN.out,List.take_length] at hd
     exact OpTo.congr ⟨rfl,g1,hd,HT.out⟩ (by unfold deleteE;rw [if_pos HK0.out.symm];exact HK.out) (by unfold deleteS;rw [if_pos HK0.out.symm,if_pos HK.out.symm])
  ·go_enter Tryz.func101,Tryz.ntmps101
   go_wp2_with (first|(go_at_call 111;refine HR.out.mono ?_;rintro e w' ⟨rfl,rfl⟩)|(go_at_call 112;refine HB.out.mono ?_;rintro e w1 ⟨rfl,hd1,ht1⟩))
   go_ret
   exact OpTo.congr ⟨rfl,g,hd1,ht1⟩ (by unfold deleteE;rw [if_pos HK0.out.symm];exact HK.out) (by unfold deleteS;rw [if_pos HK0.out.symm,if_neg (by rw [←HK.out];decide)])
 ·have hk2:(k0 != 0)=true:=by simpa using hk
  go_enter Tryz.func101,Tryz.ntmps101
  go_wp2_with (go_at_call 111;refine HR.out.mono ?_;rintro e w' ⟨rfl,rfl⟩)
  go_ret
  have hne:¬ readyE st ts=0:=by rw [←HK0.out];simpa using hk
  exact OpTo.congr ⟨rfl,g,H.out,Gh.To.refl _ _⟩ (by unfold deleteE;rw [if_neg hne];exact HK0.out) (by unfold deleteS;rw [if_neg hne])
def sync1 (st:St) (nm:ByteArray):St:=match st.find nm with|none=>st|some f=>{ st with fs:=setF st.fs nm (syncF f)}
def syncAll (st:St) (ts:List ByteArray):St:=ts.foldl sync1 st
def syncE (st:St) (ts:List ByteArray):Int:=deleteE st ts
def syncS (st:St) (ts:List ByteArray):St:=if readyE st ts=0 then (if burnE st=0 then syncAll (burnS st) ts else burnS st) else st
theorem syncAll_snoc (st:St) (ts:List ByteArray) (t:ByteArray):syncAll st (ts ++ [t])=sync1 (syncAll st ts) t:=by simp [syncAll]
theorem names_setF (fs:List (ByteArray×FileM)) (nm:ByteArray) (f:FileM):(setF fs nm f).map (·.1)=fs.map (·.1):=by
 unfold setF
 rw [List.map_map]
 refine List.map_congr_left fun p _=>?_
 simp only [Function.comp]
 split<;>simp_all
theorem find_isSome (st:St) (nm:ByteArray):(st.find nm).isSome=true↔nm∈st.fs.map (·.1):=by
 unfold St.find
 rw [Option.isSome_map,List.find?_isSome]
 constructor
 ·rintro ⟨x,hx,hn⟩
  exact List.mem_map.2 ⟨x,hx,of_decide_eq_true hn⟩
 ·intro h
  obtain ⟨x,hx,hn⟩:=List.mem_map.1 h
  exact ⟨x,hx,decide_eq_true hn⟩
theorem sync1_names (st:St) (nm:ByteArray):(sync1 st nm).fs.map (·.1)=st.fs.map (·.1):=by
 unfold sync1
 split
 ·rfl
 ·exact names_setF _ _ _
theorem syncAll_names (st:St) (ts:List ByteArray):(syncAll st ts).fs.map (·.1)=st.fs.map (·.1):=by
 unfold syncAll
 induction ts generalizing st with
 | nil=>rfl
 | cons t ts ih=>rw [List.foldl_cons,ih,sync1_names]
def AllIn (st:St) (n:Nat):Prop:=∀ p∈st.fs,Within p.2 n
theorem find_mem {st:St} {nm:ByteArray} {f:FileM} (h:st.find nm=some f):(nm,f)∈st.fs:=by
 unfold St.find at h
 cases hq:st.fs.find? (fun p=>decide (p.1=nm)) with
 | none=>rw [hq] at h;cases h
 | some p=>
  rw [hq] at h
  have h1:=List.mem_of_find?_eq_some hq
  have h2:decide (p.1=nm)=true:=List.find?_some (p:=fun p:ByteArray×FileM=>decide (p.1=nm)) hq
  have h3:=of_decide_eq_true h2
  have h4:p.2=f:=by simpa using h
  rw [←h3,←h4]
  exact h1
theorem within_sync {f:FileM} {n:Nat} (h:Within f n):Within (syncF f) n:=⟨putAll_le _ _ _ h.1 h.2.2.2,h.2.1,Nat.zero_le _,fun x hx=>by cases hx⟩
theorem AllIn.set {st:St} {n:Nat} (h:AllIn st n) {f:FileM} (hf:Within f n) (nm:ByteArray):AllIn { st with fs:=setF st.fs nm f } n:=by
 intro p hp
 obtain ⟨q,hq,rfl⟩:=List.mem_map.1 hp
 split
 ·exact hf
 ·exact h q hq
theorem AllIn.sync1 {st:St} {n:Nat} (h:AllIn st n) (nm:ByteArray):AllIn (sync1 st nm) n:=by
 unfold Go.Proofs.YtajmeimjaapagaaGreatDoor.sync1
 split
 ·exact h
 ·rename_i f hf
  exact h.set (within_sync (h _ (find_mem hf))) nm
theorem AllIn.syncAll {st:St} {n:Nat} (h:AllIn st n) (ts:List ByteArray):AllIn (syncAll st ts) n:=by
 unfold Go.Proofs.YtajmeimjaapagaaGreatDoor.syncAll
 induction ts generalizing st with
 | nil=>exact h
 | cons t ts ih=>rw [List.foldl_cons];exact ih (h.sync1 t)
theorem AllIn.burn {st:St} {n:Nat} (h:AllIn st n):AllIn (burnS st) n:=by
 unfold AllIn
 rw [burnS_fs]
 exact h
set_option maxHeartbeats 1000000 in
set_option maxRecDepth 100000 in
theorem syncd_any (g:Gh) (st:St) (v:Value) (ts:List ByteArray) (w:World) (h:DiskAt w g st) (hs:Strs w 0 v ts) (ho:Out g v) (hm:∀ t∈ts,t.size≤maxLen) (hl:ts.length≤1099511627776) (hf:FuseOk st) (hz:AllIn st 1099511627776) :
 Calls Tryz.prog 159 #[.pointer (some ⟨g.d,0,none⟩),v] w (OpTo g (syncE st ts) (syncS st ts) w):=by
 have hr:=ready_any g st v ts w h hs hm hl
 obtain ⟨k0,hk0⟩:∃ k,k=readyE st ts:=⟨_,rfl⟩
 have hk:k0=0∨(k0 == 0)=false:=by by_cases h:k0=0<;>simp [h]
 rw [show ReadyTo st ts=fun w e w'=>e = .returned (.int .i64 k0)∧w=w' from by unfold ReadyTo;rw [←hk0]] at hr
 obtain ⟨a,cap,rfl⟩:=hs.form
 obtain ⟨n,hn⟩:∃ n,n=ts.length:=⟨_,rfl⟩
 rw [←hn] at hr hl hs ho ⊢
 have HR:=Lib.hid hr
 have HK0:=Lib.hid hk0
 have H:=Lib.hid h
 have HS:=Lib.hid hs
 have HO:=Lib.hid ho
 have HM:=Lib.hid hm
 have HN:=Lib.hid hn
 have HZ:=Lib.hid hz
 clear hr h hs ho hm hn hz hk0
 rcases hk with rfl|hk
 ·have hall:∀ t∈ts,t∈st.fs.map (·.1):=fun t ht=>by
   have h1:=HK0.out
   unfold readyE at h1
   split at h1
   ·cases h1
   ·split at h1
    ·rename_i h2
     exact (find_isSome st t).1 ((List.all_eq_true.1 h2) t ht)
    ·cases h1
  have HALL:=Lib.hid hall
  have hb:=burn_any g st w H.out hf.1 hf.2
  obtain ⟨k,hk⟩:∃ k,k=burnE st:=⟨_,rfl⟩
  have hk8:=burn_k st
  rw [←hk] at hk8
  have HB:=Lib.hid (burn_to hk hb)
  have HK:=Lib.hid hk
  clear hb hk hf hall
  rcases hk8 with rfl|rfl
  ·go_enter Tryz.func159,Tryz.ntmps159
   go_wp2_with (first|(go_at_call 111;refine HR.out.mono ?_;rintro e w' ⟨rfl,rfl⟩)|(go_at_call 112;refine HB.out.mono ?_;rintro e w1 ⟨rfl,hd1,ht1⟩))
   have HD1:=Lib.hid hd1
   have HT1:=Lib.hid ht1
   clear hd1 ht1
   go_loopw [24] (fun i wr=>∃ k:Nat,k≤n∧i = .int .i64 k∧∃ g1,DiskAt wr g1 (syncAll (burnS st) (ts.take k))∧Gh.To w g g1 wr) (fun i _=>n - (intOf i).toNat)
   case atStart=>exact ⟨0,Nat.zero_le _,rfl,g,HD1.out,HT1.out⟩
   case round=>
    obtain ⟨k,hk,rfl,g1,hd,ht⟩:=hrel
    have hgd:=ht.d
    have hs:=strs_to HS.out HO.out ht
    have HD:=Lib.hid hd
    have HT:=Lib.hid ht
    by_cases hlt:k<n
    ·have hlt':k<ts.length:=by rw [←HN.out];exact hlt
     obtain ⟨b,o,hbo,hcell⟩:=(HN.out▸hs:Strs wr 0 (.slice a n cap) ts).cellAt hlt'
     obtain ⟨t,htt⟩:∃ t,t=ts.getD k ⟨#[]⟩:=⟨_,rfl⟩
     rw [←htt] at hcell
     subst hbo
     have hmem:t∈ts:=by rw [htt,List.getD_eq_getElem?_getD,List.getElem?_eq_getElem hlt'];exact List.getElem_mem hlt'
     have htk:ts.take (k+1)=ts.take k ++ [t]:=by rw [take_snoc' ts hlt',htt]
     have hmt:=HM.out t hmem
     have hlk:=hd.map.look t hmt
     have hfs:((syncAll (burnS st) (ts.take k)).find t).isSome=true:=by
      rw [find_isSome,syncAll_names,burnS_fs]
      exact HALL.out t hmem
     obtain ⟨f,hf⟩:=Option.isSome_iff_exists.1 hfs
     obtain ⟨e0,hem,hge,hef,hen⟩:=hd.found hf
     rw [hge] at hlk
     simp only [Option.map_some] at hlk
     have hin:Within e0.f 1099511627776:=by rw [hef];exact ((HZ.out.burn).syncAll (ts.take k)) _ (find_mem hf)
     have hsy:=sync_any e0 wr (hd.ents e0 hem) hin
     have c6:=hd.cells.2.2.2.2.2.2.1
     rw [hgd] at c6
     have HSY:=Lib.hid hsy
     have HTK:=Lib.hid htk
     have HF:=Lib.hid hf
     have HEM:=Lib.hid hem
     have HEF:=Lib.hid hef
     have HEN:=Lib.hid hen
     clear hs htt hmem htk hgd hmt hlt' hsy hf hfs hem hef hen hge hin hd ht
     go_wp2_with (go_at_call 157;refine HSY.out.mono ?_;rintro e w2 ⟨rfl,e1,he1,ht2⟩)
     have hu:=HD.out.upd HEM.out ht2
     have HU:=Lib.hid hu
     have HE1:=Lib.hid he1
     clear hu he1 ht2
     go_wp2_with fail
     refine ⟨⟨k+1,by omega,by go_num,_,?_,HT.out.trans HU.out.2⟩,by simp [intOf];omega⟩
     rw [HTK.out,syncAll_snoc]
     unfold sync1
     rw [HF.out]
     have:=HU.out.1
     rw [HE1.out,HEN.out,HEF.out] at this
     exact this
    ·have hkn:k=n:=by omega
     have HKN:=Lib.hid hkn
     clear hkn hs hgd hd ht
     go_wp2_with fail
     go_ret
     have hd:=HD.out
     rw [HKN.out,HN.out,List.take_length] at hd
     exact OpTo.congr ⟨rfl,g1,hd,HT.out⟩ (by unfold syncE deleteE;rw [if_pos HK0.out.symm];exact HK.out) (by unfold syncS;rw [if_pos HK0.out.symm,if_pos HK.out.symm])
  ·go_enter Tryz.func159,Tryz.ntmps159
   go_wp2_with (first|(go_at_call 111;refine HR.out.mono ?_;rintro e w' ⟨rfl,rfl⟩)|(go_at_call 112;refine HB.out.mono ?_;rintro e w1 ⟨rfl,hd1,ht1⟩))
   go_ret
   exact OpTo.congr ⟨rfl,g,hd1,ht1⟩ (by unfold syncE deleteE;rw [if_pos HK0.out.symm];exact HK.out) (by unfold syncS;rw [if_pos HK0.out.symm,if_neg (by rw [←HK.out];decide)])
 ·have hk2:(k0 != 0)=true:=by simpa using hk
  go_enter Tryz.func159,Tryz.ntmps159
  go_wp2_with (go_at_call 111;refine HR.out.mono ?_;rintro e w' ⟨rfl,rfl⟩)
  go_ret
  have hne:¬ readyE st ts=0:=by rw [←HK0.out];simpa using hk
  exact OpTo.congr ⟨rfl,g,H.out,Gh.To.refl _ _⟩ (by unfold syncE deleteE;rw [if_neg hne];exact HK0.out) (by unfold syncS;rw [if_neg hne])
def cutF (f:FileM) (n:Nat):FileM:=⟨(putAll f.image f.writes).take n,f.bytes.take n,[]⟩
def cutE (st:St) (nm:ByteArray) (n:Int):Int:=if st.down=true then 8 else match st.find nm with
 | none=>9
 | some f=>if n<0∨(f.bytes.length:Int)<n then 2 else burnE st
def cutS (st:St) (nm:ByteArray) (n:Int):St:=if st.down=true then st else match st.find nm with
 | none=>st
 | some f=>if n<0∨(f.bytes.length:Int)<n then st else if burnE st=0 then { burnS st with size:=st.size - (f.bytes.length - n.toNat),fs:=setF st.fs nm (cutF f n.toNat)} else burnS st
theorem sync_disk {g:Gh} {st:St} {w:World} (h:DiskAt w g st) {e0:Ent} (he:e0∈g.es) (hin:Within e0.f 1099511627776) :
 Calls Tryz.prog 157 #[.pointer (some ⟨e0.blk,0,none⟩)] w fun e w'=>e = .returned (.tuple #[])∧∃ e1,e1.f=syncF e0.f∧Ent.To w e0 e1 w':=
 (sync_any e0 w (h.ents e0 he) hin).mono fun _ _ h=>h
set_option maxHeartbeats 4000000 in
set_option maxRecDepth 100000 in
theorem cut_any (g:Gh) (st:St) (nm:ByteArray) (n:Int) (w:World) (h:DiskAt w g st) (hm:nm.size≤maxLen) (hf:FuseOk st) (hc:st.size≤16777216) (hz:SizeOk st)
 (hfile:∀ f,st.find nm=some f→Within f 1099511627776∧f.bytes=putAll f.image f.writes) :
 Calls Tryz.prog 105 #[.pointer (some ⟨g.d,0,none⟩),.string nm,.int .i64 n] w (OpTo g (cutE st nm n) (cutS st nm n) w):=by
 cases hq:st.down with
 | true=>
  have hk:readyE st [nm]=8:=by unfold readyE;rw [if_pos hq]
  have HC:=Lib.hid (find_err g st nm w h hm 8 hk rfl)
  have HQ:=Lib.hid hq
  have HG:=Lib.hid h
  clear h hq hk hfile hf hz
  go_enter Tryz.func105,Tryz.ntmps105
  go_wp2_with (go_at_call 120;refine HC.out.mono ?_;rintro e w' ⟨rfl,hb⟩)
  go_ret
  exact OpTo.err HG.out hb (by unfold cutE;rw [if_pos HQ.out]) (by unfold cutS;rw [if_pos HQ.out])
 | false=>
  have hq':¬ st.down=true:=by rw [hq];simp
  cases hg:getE g.es nm with
  | none=>
   have hfd:=h.find nm
   rw [hg] at hfd
   have HF:Hid (st.find nm=none):=hfd.symm
   have hk:readyE st [nm]=9:=by rw [readyE_one,if_neg hq',if_neg (by rw [HF.out];simp)]
   have HC:=Lib.hid (find_err g st nm w h hm 9 hk rfl)
   have HQ:=Lib.hid hq'
   have HG:=Lib.hid h
   clear h hq hk hg hfd hq' hfile hf hz
   go_enter Tryz.func105,Tryz.ntmps105
   go_wp2_with (go_at_call 120;refine HC.out.mono ?_;rintro e w' ⟨rfl,hb⟩)
   go_ret
   exact OpTo.err HG.out hb (by unfold cutE;rw [if_neg HQ.out,HF.out]) (by unfold cutS;rw [if_neg HQ.out,HF.out])
  | some e0=>
   have hfd:=h.find nm
   rw [hg] at hfd
   have HF:Hid (st.find nm=some e0.f):=hfd.symm
   have HIN:=Lib.hid (hfile e0.f HF.out).1
   have HBY:=Lib.hid (hfile e0.f HF.out).2
   have HC:=Lib.hid (find_ok g st nm w h hm hq e0 hg)
   unfold pk at HC
   have HQ:=Lib.hid hq'
   have HG:=Lib.hid h
   have HGE:=Lib.hid (getE_mem hg)
   have HFU:=Lib.hid hf
   have hlen:e0.f.bytes.length≤st.size:=by
    have:=hz.len nm
    unfold St.len at this
    rw [HF.out] at this
    exact this
   obtain ⟨l,hl⟩:∃ l,l=e0.f.bytes.length:=⟨_,rfl⟩
   rw [←hl] at hlen
   have HL:=Lib.hid hl
   have hk1:∀ w1:World,Chg (fun _=>False) w w1→∃ p c,w1.cell? ⟨e0.blk,1,none⟩=some (.slice p l c):=fun w1 hb=>by
    have hE:EntAt w1 e0:=(HG.out.ents e0 HGE.out.1).chg hb (fun _ _ x=>x)
    obtain ⟨p,c,hv⟩:=hE.bytes.slice
    exact ⟨p,c,by rw [hE.cells.2.1,hv,HL.out]⟩
   have HK1:=Lib.hid hk1
   clear h hq hg hfd hq' hfile hf hl hk1 hz
   by_cases ha0:n<0
   ·go_enter Tryz.func105,Tryz.ntmps105
    go_wp2_with (go_at_call 120;refine HC.out.mono ?_;rintro e w1 ⟨rfl,hb⟩)
    go_ret
    exact OpTo.err HG.out hb (by unfold cutE;rw [if_neg HQ.out,HF.out];simp only;rw [if_pos (.inl ha0)]) (by unfold cutS;rw [if_neg HQ.out,HF.out];simp only;rw [if_pos (.inl ha0)])
   ·by_cases ha1:(l:Int)<n
    ·go_enter Tryz.func105,Tryz.ntmps105
     go_wp2_with (go_at_call 120;refine HC.out.mono ?_;rintro e w1 ⟨rfl,hb⟩;obtain ⟨p,c,k1⟩:=HK1.out w1 (Chg.of_below hb))
     go_ret
     exact OpTo.err HG.out hb (by unfold cutE;rw [if_neg HQ.out,HF.out];simp only;rw [if_pos (.inr (by rw [←HL.out];exact ha1))]) (by unfold cutS;rw [if_neg HQ.out,HF.out];simp only;rw [if_pos (.inr (by rw [←HL.out];exact ha1))])
    ·obtain ⟨i,hi⟩:∃ i:Nat,n=i:=⟨n.toNat,by omega⟩
     subst hi
     have hin:i≤l:=by omega
     have hE1:cutE st nm i=burnE st:=by
      unfold cutE
      rw [if_neg HQ.out,HF.out]
      simp only
      rw [if_neg (by rw [←HL.out];omega)]
     have hS1:cutS st nm i=if burnE st=0 then { burnS st with size:=st.size - (l - i),fs:=setF st.fs nm (cutF e0.f i)} else burnS st:=by
      unfold cutS
      rw [if_neg HQ.out,HF.out]
      simp only
      rw [if_neg (by rw [←HL.out];omega),←HL.out,Int.toNat_natCast]
     rw [hE1,hS1]
     clear hE1 hS1 ha0 ha1
     obtain ⟨k,hk⟩:∃ k,k=burnE st:=⟨_,rfl⟩
     have hk8:=burn_k st
     rw [←hk] at hk8 ⊢
     have HK:=Lib.hid hk
     clear hk
     rcases hk8 with rfl|rfl
     ·rw [if_pos rfl]
      go_enter Tryz.func105,Tryz.ntmps105
      go_wp2_with (first
       | (go_at_call 120;refine HC.out.mono ?_;rintro e w1 ⟨rfl,hb⟩;obtain ⟨p,c,k1⟩:=HK1.out w1 (Chg.of_below hb))
       | (go_at_call 112;refine (burn_to HK.out (burn_any g st _ (HG.out.new (Chg.of_below hb)) HFU.out.1 HFU.out.2)).mono ?_;rintro e w3 ⟨rfl,hd3,ht3⟩))
      have HD3:=Lib.hid hd3
      have HT3:=Lib.hid ht3
      have hE3:=hd3.ents e0 HGE.out.1
      have q1:=hE3.cells.2.1
      obtain ⟨p2,c2,hv2⟩:=hE3.bytes.slice
      rw [hv2,←HL.out] at q1
      obtain ⟨_,_,_,_,d4,_,_,dz⟩:=hd3.cells
      rw [burnS_size] at d4
      have z4:=dz 4
      have hw1:IntKind.i64.wrap ((l:Int) - (i:Int))=(l:Int) - i:=IntWalk.i64_in _ (by omega)
      have hw2:IntKind.i64.wrap ((st.size:Int) - ((l:Int) - (i:Int)))=(st.size:Int) - ((l:Int) - i):=IntWalk.i64_in _ (by omega)
      clear hd3 ht3 hE3 hv2 dz k1
      go_wp2_with fail
      go_still_tail 14,(by kernel_rfl)
      change wpList _ _ _ _ _ w3.drew
      have hd:=HD3.out.drew
      have hT:=Gh.To.new g (Chg.refl (fun _=>False) w3).drew
      clear q1 d4 z4
      generalize w3.drew=w4 at hd hT ⊢
      have d4:=hd.cells.2.2.2.2.1
      have z4:=hd.cells.2.2.2.2.2.2.2 4
      have hs2:=hd.set 4 (.int .i64 ((st.size:Int) - ((l:Int) - i))) { burnS st with size:=st.size - (l - i)} rfl (by
       rw [show ((st.size:Int) - ((l:Int) - i))=((st.size - (l - i):Nat):Int) by omega];rfl)
      have HS:=Lib.hid hs2
      have HT:=Lib.hid hT
      clear hd hT hs2 hw1 hw2
      go_wp2_with (go_at_call 157;refine (sync_disk HS.out.1 HGE.out.1 HIN.out).mono ?_)
      rintro e w5 rfl e1 hf1 ht1
      have hu:=HS.out.1.upd HGE.out.1 ht1
      have hcut:=cutf_any e1 i w5 ht1.at_ (by
       rw [hf1]
       show i≤(putAll _ _).length
       rw [←HBY.out,←HL.out]
       exact hin) (by
       rw [hf1]
       show i≤e0.f.bytes.length
       rw [←HL.out]
       exact hin)
      rw [ht1.blk] at hcut
      have HCUT:=Lib.hid hcut
      have HU:=Lib.hid hu
      have HF1:=Lib.hid hf1
      have HT1:=Lib.hid ht1
      clear hcut hu hf1 ht1
      go_wp2_with (go_at_call 158;refine HCUT.out.mono ?_)
      rintro e w6 ⟨rfl,e2,hf2,ht2⟩
      have hu2:=HS.out.1.upd HGE.out.1 (HT1.out.trans ht2)
      have HU2:=Lib.hid hu2
      have HF2:=Lib.hid hf2
      clear hu2 hf2 ht2
      go_wp2_with fail
      go_ret
      refine ⟨rfl,_,?_,(((Gh.To.new g (Chg.of_below hb)).trans HT3.out).trans HT.out).trans (HS.out.2.trans HU2.out.2)⟩
      have:=HU2.out.1
      rw [HF2.out,HF1.out,HGE.out.2,burnS_fs] at this
      exact this
     ·rw [if_neg (by decide)]
      go_enter Tryz.func105,Tryz.ntmps105
      go_wp2_with (first
       | (go_at_call 120;refine HC.out.mono ?_;rintro e w1 ⟨rfl,hb⟩;obtain ⟨p,c,k1⟩:=HK1.out w1 (Chg.of_below hb))
       | (go_at_call 112;refine (burn_to HK.out (burn_any g st _ (HG.out.new (Chg.of_below hb)) HFU.out.1 HFU.out.2)).mono ?_;rintro e w3 ⟨rfl,hd3,ht3⟩))
      go_ret
      exact ⟨rfl,g,hd3,(Gh.To.new g (Chg.of_below hb)).trans ht3⟩
def St.waits (st:St):Nat:=(st.fs.map fun p=>p.2.writes.length).sum
def toCome (mb:Option Nat) (w:World) (r:Nat):Nat:=match mb with|none=>0|some m=>w.rangeLeft m r
theorem RangeIn.toCome {w:World} {m r:Nat} {es vis rem:List Ent} {cnt:Nat} (h:RangeIn w (some m) r es vis rem cnt):toCome (some m) w r=cnt:=by
 obtain ⟨_,_,l,left,hr,_⟩:=h
 exact hr.left_eq
theorem RangeIn.perm {w:World} {mb:Option Nat} {r:Nat} {es vis rem:List Ent} {cnt:Nat} (h:RangeIn w mb r es vis rem cnt):(vis ++ rem).Perm es:=by
 cases mb with
 | none=>obtain ⟨rfl,rfl,rfl,_⟩:=h;exact List.Perm.refl _
 | some m=>exact h.2.1
end Go.Proofs.YtajmeimjaapagaaGreatDoor
