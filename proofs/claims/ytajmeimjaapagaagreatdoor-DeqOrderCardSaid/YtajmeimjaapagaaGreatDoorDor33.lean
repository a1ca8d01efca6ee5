/- A part. -/
import Derived.Lib.BufferRead
import Derived.Test.YtajmeimjaapagaaGreatDoorDor24
set_option linter.unusedVariables false
set_option linter.unusedSimpArgs false
namespace Go.Proofs.YtajmeimjaapagaaGreatDoor
open Go.RowKit Go.Deep
def readyE (st:St) (ts:List ByteArray):Int:=if st.down=true then 8 else if (ts.all fun t=>(st.find t).isSome)=true then 0 else 9
theorem readyE_one (st:St) (nm:ByteArray):readyE st [nm]=if st.down=true then 8 else if (st.find nm).isSome=true then 0 else 9:=by simp [readyE]
def ReadyTo (st:St) (ts:List ByteArray) (w:World) (e:Ending) (w':World):Prop:=e = .returned (.int .i64 (readyE st ts))∧w=w'
set_option maxRecDepth 100000 in
theorem ready_any (g:Gh) (st:St) (v:Value) (ts:List ByteArray) (w:World) (h:DiskAt w g st) (hs:Strs w 0 v ts) (hm:∀ t∈ts,t.size≤maxLen) (hl:ts.length≤1099511627776) :
 Calls Tryz.prog 111 #[.pointer (some ⟨g.d,0,none⟩),v] w (ReadyTo st ts w):=by
 obtain ⟨a,cap,rfl⟩:=hs.form
 obtain ⟨c0,c1,c2,c3,c4,c5,c6,hz⟩:=h.cells
 have H:=Lib.hid h
 have HS:=Lib.hid hs
 have HM:=Lib.hid hm
 obtain ⟨n,hn⟩:∃ n,n=ts.length:=⟨_,rfl⟩
 rw [←hn] at hl ⊢
 have HN:=Lib.hid hn
 clear hz h hs hm hn
 cases hq:st.down with
 | true=>
  rw [hq] at c1
  have HQ:=Lib.hid hq
  clear hq
  go_enter Tryz.func111,Tryz.ntmps111
  go_wp2_with fail
  go_ret
  exact ⟨ret_of (by unfold readyE;rw [if_pos HQ.out]),rfl⟩
 | false=>
  rw [hq] at c1
  have HQ:=Lib.hid hq
  clear hq
  go_enter Tryz.func111,Tryz.ntmps111
  go_wp2_with fail
  go_loop [16] (fun i=>∃ k:Nat,k≤n∧i = .int .i64 k∧(ts.take k).all (fun t=>(st.find t).isSome)=true) (fun i=>n - (intOf i).toNat)
  case atStart=>exact ⟨0,Nat.zero_le _,rfl,rfl⟩
  case round=>
   obtain ⟨k,hk,rfl,hall⟩:=hrel
   have HA:=Lib.hid hall
   clear hall
   by_cases hlt:k<n
   ·have hlt':k<ts.length:=by rw [←HN.out];exact hlt
    obtain ⟨b,o,hbo,hcell⟩:=(HN.out▸HS.out:Strs w 0 (.slice a n cap) ts).cellAt hlt'
    obtain ⟨t,ht⟩:∃ t,t=ts.getD k ⟨#[]⟩:=⟨_,rfl⟩
    rw [←ht] at hcell
    subst hbo
    have hmem:t∈ts:=by rw [ht,List.getD_eq_getElem?_getD,List.getElem?_eq_getElem hlt'];exact List.getElem_mem hlt'
    have hlk:=H.out.map.look t (HM.out t hmem)
    have htk:ts.take (k+1)=ts.take k ++ [t]:=by rw [take_snoc' ts hlt',ht]
    have hfind:=H.out.find t
    cases hg:getE g.es t with
    | none=>
     rw [hg] at hlk hfind
     have HF:Hid (st.find t=none):=hfind.symm
     have HT:=Lib.hid hmem
     clear hfind hg htk ht hmem hlt'
     simp only [Option.map_none] at hlk
     go_wp2_with fail
     go_ret
     refine ⟨ret_of ?_,rfl⟩
     unfold readyE
     rw [if_neg (by rw [HQ.out];simp),if_neg]
     intro hx
     have:=(List.all_eq_true.1 hx) t HT.out
     rw [HF.out] at this
     cases this
    | some e=>
     rw [hg] at hlk hfind
     have HF:Hid (st.find t=some e.f):=hfind.symm
     have HT:=Lib.hid htk
     clear hfind hg htk ht hmem hlt'
     simp only [Option.map_some] at hlk
     go_wp2_with fail
     go_round
     case rel=>
      refine ⟨k+1,by omega,by go_num,?_⟩
      rw [HT.out,List.all_append,HA.out]
      simp [HF.out]
     case measure=>simp [intOf];omega
   ·have hkn:k=n:=by omega
    have HK:=Lib.hid hkn
    clear hkn
    go_wp2_with fail
    go_ret
    refine ⟨ret_of ?_,rfl⟩
    unfold readyE
    have:=HA.out
    rw [HK.out,HN.out,List.take_length] at this
    rw [if_neg (by rw [HQ.out];simp),if_pos this]
theorem below_strs (w:World) (nm:ByteArray):Below w.heap.size w (w.alloc (.cells #[.string nm] 9)):=(Below.refl _ _).alloc (Nat.le_refl _) _
set_option maxRecDepth 100000 in
theorem find_err (g:Gh) (st:St) (nm:ByteArray) (w:World) (h:DiskAt w g st) (hm:nm.size≤maxLen) (k:Int) (hk:readyE st [nm]=k) (hne:(k != 0)=true) :
 Calls Tryz.prog 120 #[.pointer (some ⟨g.d,0,none⟩),.string nm] w fun e w'=>e = .returned (.tuple #[.pointer none,.int .i64 k])∧Below w.heap.size w w':=by
 have hne2:(k == 0)=false:=by simpa using hne
 have hr:=fun w' (hb:Below w.heap.size w w') (v:Value) (hv:Strs w' 0 v [nm])=>ready_any g st v [nm] w' (h.new (Chg.of_below hb)) hv (fun t ht=>by simp at ht;exact ht▸hm) (by simp)
 rw [show ReadyTo st [nm]=fun w e w'=>e = .returned (.int .i64 k)∧w=w' from by unfold ReadyTo;rw [hk]] at hr
 have HR:=Lib.hid hr
 have HS:=Lib.hid (strs_one w nm)
 clear hr hk h
 go_enter Tryz.func120,Tryz.ntmps120
 go_wp2_with (go_at_call 111;refine (HR.out _ (below_strs w nm) _ HS.out).mono ?_;rintro e w' ⟨rfl,rfl⟩)
 go_ret2
 exact ⟨rfl,below_strs w nm⟩
set_option maxRecDepth 100000 in
theorem find_ok (g:Gh) (st:St) (nm:ByteArray) (w:World) (h:DiskAt w g st) (hm:nm.size≤maxLen) (hd:st.down=false) (e0:Ent) (hg:getE g.es nm=some e0) :
 Calls Tryz.prog 120 #[.pointer (some ⟨g.d,0,none⟩),.string nm] w fun e w'=>e = .returned (.tuple #[pk e0.blk,.int .i64 0])∧Below w.heap.size w w':=by
 have hk:readyE st [nm]=0:=by
  have h1:=h.has nm
  rw [hg] at h1
  rw [readyE_one,if_neg (by rw [hd];simp),if_pos (by rw [←h1];rfl)]
 have h2:DiskAt (w.alloc (.cells #[.string nm] 9)) g st:=h.new (Chg.of_below (below_strs w nm))
 have hlk:=h2.map.look nm hm
 rw [hg] at hlk
 simp only [Option.map_some] at hlk
 obtain ⟨c0,c1,c2,c3,c4,c5,c6,hz⟩:=h2.cells
 have hr:=fun w' (hb:Below w.heap.size w w') (v:Value) (hv:Strs w' 0 v [nm])=>ready_any g st v [nm] w' (h.new (Chg.of_below hb)) hv (fun t ht=>by simp at ht;exact ht▸hm) (by simp)
 rw [show ReadyTo st [nm]=fun w e w'=>e = .returned (.int .i64 0)∧w=w' from by unfold ReadyTo;rw [hk]] at hr
 have HR:=Lib.hid hr
 have HS:=Lib.hid (strs_one w nm)
 clear hr hk h h2 hz c0 c1 c2 c3 c4 c5 hg hd
 go_enter Tryz.func120,Tryz.ntmps120
 go_wp2_with (go_at_call 111;refine (HR.out _ (below_strs w nm) _ HS.out).mono ?_;rintro e w' ⟨rfl,rfl⟩)
 go_ret2
 exact ⟨rfl,below_strs w nm⟩
def St.len (st:St) (nm:ByteArray):Nat:=match st.find nm with|none=>0|some f=>f.bytes.length
set_option maxRecDepth 100000 in
theorem len_any (g:Gh) (st:St) (nm:ByteArray) (w:World) (h:DiskAt w g st) (hm:nm.size≤maxLen) :
 Calls Tryz.prog 152 #[.pointer (some ⟨g.d,0,none⟩),.string nm] w fun e w'=>e = .returned (.int .i64 (st.len nm))∧w=w':=by
 have hlk:=h.map.look nm hm
 obtain ⟨c0,c1,c2,c3,c4,c5,c6,hz⟩:=h.cells
 have hfind:=h.find nm
 cases hg:getE g.es nm with
 | none=>
  rw [hg] at hlk hfind
  have HF:Hid (st.find nm=none):=hfind.symm
  simp only [Option.map_none] at hlk
  clear hz c0 c1 c2 c3 c4 c5 h hfind hg
  go_enter Tryz.func152,Tryz.ntmps152
  go_wp2_with fail
  go_ret
  exact ⟨ret_of (by unfold St.len;rw [HF.out];rfl),rfl⟩
 | some e=>
  rw [hg] at hlk hfind
  have HF:Hid (st.find nm=some e.f):=hfind.symm
  simp only [Option.map_some] at hlk
  have hE:=h.ents e (getE_mem hg).1
  have k1:=hE.cells.2.1
  obtain ⟨p,c,hv⟩:=hE.bytes.slice
  rw [hv] at k1
  obtain ⟨n,hn⟩:∃ n,n=e.f.bytes.length:=⟨_,rfl⟩
  rw [←hn] at k1
  have HN:=Lib.hid hn
  clear hz c0 c1 c2 c3 c4 c5 h hfind hg hE hv hn
  go_enter Tryz.func152,Tryz.ntmps152
  go_wp2_with fail
  go_ret
  exact ⟨ret_of (by unfold St.len;rw [HF.out,HN.out]),rfl⟩
set_option maxRecDepth 100000 in
theorem room_any (g:Gh) (st:St) (w:World) (h:DiskAt w g st) (h1:st.size≤st.cap) (h2:st.cap≤16777216) :
 Calls Tryz.prog 117 #[.pointer (some ⟨g.d,0,none⟩)] w fun e w'=>e = .returned (.int .i64 ((st.cap:Int) - st.size))∧∃ k,w'=w.drewN k:=by
 obtain ⟨c0,c1,c2,c3,c4,c5,c6,hz⟩:=h.cells
 have hw:IntKind.i64.wrap ((st.cap:Int) - (st.size:Int))=(st.cap:Int) - st.size:=IntWalk.i64_in _ (by omega)
 clear hz h
 go_enter Tryz.func117,Tryz.ntmps117
 go_wp2_with fail
 go_quiet (fail)
 go_wp2_with fail
 go_ret
 exact ⟨rfl,_,rfl⟩
set_option maxRecDepth 100000 in
theorem down_any (g:Gh) (st:St) (w:World) (h:DiskAt w g st) :
 Calls Tryz.prog 99 #[.pointer (some ⟨g.d,0,none⟩)] w fun e w'=>e = .returned (.bool st.down)∧w=w':=by
 obtain ⟨c0,c1,c2,c3,c4,c5,c6,hz⟩:=h.cells
 clear hz h
 go_enter Tryz.func99,Tryz.ntmps99
 go_wp2_with fail
 go_ret
 exact ⟨rfl,rfl⟩
def rest (g:Gh) (es:List Ent):List Nat:=g.d :: (g.mb.toList ++ es.flatMap Ent.foot)
theorem fp_perm (g:Gh) {l1 l2:List Ent} {e:Ent} (h:g.es=l1 ++ e :: l2):g.fp.Perm (e.foot ++ rest g (l1 ++ l2)):=by
 unfold Gh.fp rest
 rw [h,List.flatMap_append,List.flatMap_cons,List.flatMap_append]
 generalize e.foot=A
 generalize l1.flatMap Ent.foot=B
 generalize l2.flatMap Ent.foot=C
 generalize g.mb.toList=M
 have h1:(B ++ (A ++ C)).Perm (A ++ (B ++ C)):=List.perm_append_comm_assoc B A C
 have h2:(M ++ (B ++ (A ++ C))).Perm (A ++ (M ++ (B ++ C))):=(List.Perm.append_left M h1).trans (List.perm_append_comm_assoc M A (B ++ C))
 exact (h2.cons g.d).trans (List.perm_middle (a:=g.d) (l₁:=A) (l₂:=M ++ (B ++ C))).symm
def setE (es:List Ent) (e':Ent):List Ent:=es.map fun x=>if x.name=e'.name then e' else x
def setF (fs:List (ByteArray×FileM)) (nm:ByteArray) (f:FileM):List (ByteArray×FileM):=fs.map fun p=>if p.1=nm then (nm,f) else p
theorem setE_split {l1 l2:List Ent} {e e':Ent} (hn:(names (l1 ++ e :: l2)).Nodup) (h:e'.name=e.name):setE (l1 ++ e :: l2) e'=l1 ++ e' :: l2:=by
 unfold names at hn
 rw [List.map_append,List.map_cons,List.nodup_append,List.nodup_cons] at hn
 obtain ⟨_,⟨h1,_⟩,h2⟩:=hn
 unfold setE
 rw [List.map_append,List.map_cons,if_pos h.symm]
 congr 1
 ·refine (List.map_congr_left fun x hx=>?_).trans (List.map_id _)
  rw [if_neg]
  ·rfl
  ·intro hq
   exact h2 _ (List.mem_map_of_mem hx) _ (List.mem_cons_self ..) (hq.trans h)
 ·congr 1
  refine (List.map_congr_left fun x hx=>?_).trans (List.map_id _)
  rw [if_neg]
  ·rfl
  ·intro hq
   exact h1 ((hq.trans h)▸List.mem_map_of_mem hx)
theorem setE_nf (es:List Ent) (e':Ent):(setE es e').map nf=setF (es.map nf) e'.name e'.f:=by
 unfold setE setF
 rw [List.map_map,List.map_map]
 refine List.map_congr_left fun x _=>?_
 simp only [Function.comp,nf]
 split<;>simp_all
theorem nodup_new {A A' R:List Nat} {n:Nat} (h:(A ++ R).Nodup) (h':A'.Nodup) (hs:∀ k∈A',k∈A∨n≤k) (hl:∀ k∈R,k<n):(A' ++ R).Nodup:=by
 rw [List.nodup_append] at h ⊢
 refine ⟨h',h.2.1,fun a ha b hb hx=>?_⟩
 subst hx
 rcases hs a ha with h1|h1
 ·exact h.2.2 a h1 a hb rfl
 ·have:=hl a hb;omega
theorem DiskAt.upd {w w':World} {g:Gh} {st:St} {e e':Ent} (h:DiskAt w g st) (he:e∈g.es) (ht:Ent.To w e e' w') :
 DiskAt w' { g with es:=setE g.es e' } { st with fs:=setF st.fs e.name e'.f }∧Gh.To w g { g with es:=setE g.es e' } w':=by
 obtain ⟨l1,l2,hes⟩:=List.append_of_mem he
 have hsp:setE g.es e'=l1 ++ e' :: l2:=by rw [hes];exact setE_split (hes▸h.map.1) ht.name
 have hlt:=h.lt
 have hap:=(fp_perm g hes).nodup_iff.1 h.apart
 have hrl:∀ k∈rest g (l1 ++ l2),k<w.heap.size:=fun k hk=>hlt k ((fp_perm g hes).mem_iff.2 (List.mem_append_right _ hk))
 have hdj:∀ k∈rest g (l1 ++ l2),k∉e.foot:=fun k hk hx=>(List.nodup_append.1 hap).2.2 k hx k hk rfl
 have hm:∀ {x:Ent},x∈l1∨x∈l2→∀ k∈x.foot,k∈rest g (l1 ++ l2):=fun hx k hk=>by
  unfold rest
  exact List.mem_cons_of_mem _ (List.mem_append_right _ (List.mem_flatMap.2 ⟨_,List.mem_append.2 hx,hk⟩))
 have hfp:({ g with es:=setE g.es e' }:Gh).fp.Perm (e'.foot ++ rest g (l1 ++ l2)):=fp_perm { g with es:=setE g.es e' } hsp
 refine ⟨⟨?_,?_,?_,?_,?_⟩,⟨?_,?_,rfl⟩⟩
 ·exact ht.chg.heap h.head (hdj _ (List.mem_cons_self ..))
 ·refine (h.map.chg ht.chg (fun m hmb=>hdj m ?_)).same ?_
  ·unfold rest;rw [hmb];simp
  ·rw [hsp,hes,List.map_append,List.map_append,List.map_cons,List.map_cons,ht.name,ht.blk]
 ·intro x hx
  rw [hsp] at hx
  rcases List.mem_append.1 hx with h1|h1
  ·refine (h.ents x (hes▸List.mem_append_left _ h1)).chg ht.chg (fun k hk=>hdj k (hm (.inl h1) k hk))
  ·rcases List.mem_cons.1 h1 with rfl|h1
   ·exact ht.at_
   ·refine (h.ents x (hes▸List.mem_append_right _ (List.mem_cons_of_mem _ h1))).chg ht.chg (fun k hk=>hdj k (hm (.inr h1) k hk))
 ·exact hfp.nodup_iff.2 (nodup_new hap ht.at_.apart ht.foot hrl)
 ·rw [setE_nf,h.fs,ht.name]
 ·exact ht.chg.wide (fun k _ hk=>(fp_perm g hes).mem_iff.2 (List.mem_append_left _ hk))
 ·intro k hk
  rcases List.mem_append.1 (hfp.mem_iff.1 hk) with h1|h1
  ·rcases ht.foot k h1 with h2|h2
   ·exact .inl ((fp_perm g hes).mem_iff.2 (List.mem_append_left _ h2))
   ·exact .inr h2
  ·exact .inl ((fp_perm g hes).mem_iff.2 (List.mem_append_right _ h1))
def dropF (fs:List (ByteArray×FileM)) (nm:ByteArray):List (ByteArray×FileM):=fs.filter fun p=>!decide (p.1=nm)
theorem without_nf (es:List Ent) (nm:ByteArray):(without es nm).map nf=dropF (es.map nf) nm:=by
 unfold without dropF
 rw [List.filter_map]
 rfl
theorem fp_without (g:Gh) (nm:ByteArray):({ g with es:=without g.es nm }:Gh).fp.Sublist g.fp:=by
 unfold Gh.fp without
 refine List.Sublist.cons_cons _ ((List.Sublist.refl _).append ?_)
 simp only
 generalize g.es=l
 induction l with
 | nil=>exact List.Sublist.refl _
 | cons x l ih=>
  rw [List.filter_cons,List.flatMap_cons]
  split
  ·rw [List.flatMap_cons];exact (List.Sublist.refl _).append ih
  ·exact ih.trans (List.sublist_append_right _ _)
theorem DiskAt.drop {w w':World} {g:Gh} {st:St} (h:DiskAt w g st) (nm:ByteArray) (hm:MapIn w' g.mb (without g.es nm)) (hg:w.grownBy w' g.mb) :
 DiskAt w' { g with es:=without g.es nm } { st with fs:=dropF st.fs nm }∧Gh.To w g { g with es:=without g.es nm } w':=by
 have hc:Chg (fun k=>some k=g.mb) w w':=Chg.of_grown hg (fun k hk _=>hk.symm)
 have hap:=h.apart
 unfold Gh.fp at hap
 rw [List.nodup_cons,List.nodup_append] at hap
 refine ⟨⟨?_,hm,?_,(fp_without g nm).nodup h.apart,?_⟩,⟨?_,fun k hk=>.inl ((fp_without g nm).mem hk),rfl⟩⟩
 ·refine hc.heap h.head (fun hx=>hap.1 ?_)
  rw [←hx];simp
 ·intro e he
  have he':e∈g.es:=(List.mem_filter.1 he).1
  refine (h.ents e he').chg hc (fun k hk hx=>hap.2.2.2 k ?_ k (List.mem_flatMap.2 ⟨e,he',hk⟩) rfl)
  rw [←hx];simp
 ·show (without g.es nm).map nf=_
  rw [without_nf,h.fs]
 ·exact hc.wide (fun k _ hk=>mem_fp_mb g hk.symm)
theorem DiskAt.come {w w':World} {g:Gh} {st:St} {m:Nat} {e:Ent} (h:DiskAt w g st) (hmb:g.mb=some m) (hm:MapIn w' (some m) (g.es ++ [e])) (hg:w.grownBy w' (some m)) (he:EntAt w e) (hd:∀ k∈e.foot,k∉g.fp) :
 DiskAt w' { g with es:=g.es ++ [e]} { st with fs:=st.fs ++ [nf e]}∧Chg (·∈g.fp) w w':=by
 have hc:Chg (fun k=>k=m) w w':=Chg.of_grown hg (fun k hk _=>by cases hk;rfl)
 have hap:=h.apart
 unfold Gh.fp at hap
 rw [hmb,List.nodup_cons,List.nodup_append] at hap
 have hmm:m∈g.fp:=mem_fp_mb g hmb
 refine ⟨⟨?_,?_,?_,?_,?_⟩,hc.wide (fun k _ hk=>hk▸hmm)⟩
 ·refine hc.heap h.head (fun hx=>hap.1 ?_)
  rw [hx];simp
 ·show MapIn w' g.mb _
  rw [hmb];exact hm
 ·intro x hx
  rcases List.mem_append.1 hx with h1|h1
  ·exact (h.ents x h1).chg hc (fun k hk hx=>hap.2.2.2 m (by simp) k (List.mem_flatMap.2 ⟨x,h1,hk⟩) hx.symm)
  ·simp at h1
   subst h1
   exact he.chg hc (fun k hk hx=>hd k hk (hx▸hmm))
 ·have e1:({ g with es:=g.es ++ [e]}:Gh).fp=g.fp ++ e.foot:=by
   unfold Gh.fp
   rw [List.flatMap_append]
   simp
  rw [e1,List.nodup_append]
  exact ⟨h.apart,he.apart,fun a ha b hb hx=>hd b hb (hx▸ha)⟩
 ·show (g.es ++ [e]).map nf=_
  rw [List.map_append,h.fs]
  rfl
def OpTo (g:Gh) (k:Int) (st':St) (w:World) (e:Ending) (w':World):Prop:=e = .returned (.int .i64 k)∧∃ g',DiskAt w' g' st'∧Gh.To w g g' w'
theorem OpTo.congr {g:Gh} {k k':Int} {st st':St} {w:World} {e:Ending} {w':World} (h:OpTo g k st w e w') (h1:k=k') (h2:st=st'):OpTo g k' st' w e w':=by subst h1;subst h2;exact h
def FuseOk (st:St):Prop:=(st.lit=true→0≤st.left)∧st.left≤9223372036854775807
def emptyF:FileM:=⟨[],[],[]⟩
def createE (st:St) (nm:ByteArray):Int:=if st.down=true then 8 else if (st.find nm).isSome=true then 10 else burnE st
def createS (st:St) (nm:ByteArray):St:=if st.down=true then st else if (st.find nm).isSome=true then st else if burnE st=0 then { burnS st with fs:=st.fs ++ [(nm,emptyF)]} else burnS st
theorem burnS_fs (st:St):(burnS st).fs=st.fs:=by unfold burnS;split<;>(try split)<;>rfl
theorem nil_strs (w:World):Strs w 0 (.slice none 0 0) []:=⟨none,0,rfl,.inl rfl⟩
theorem DiskAt.made {w:World} {g:Gh} {st:St} (h:DiskAt w g st) (hm:g.mb=none) :
 DiskAt ((w.setCell ⟨g.d,6,none⟩ (.map (some w.heap.size))).alloc (.map #[] 0)) ⟨g.d,some w.heap.size,g.es⟩ st∧Gh.To w g ⟨g.d,some w.heap.size,g.es⟩ ((w.setCell ⟨g.d,6,none⟩ (.map (some w.heap.size))).alloc (.map #[] 0)):=by
 have hes:g.es=[]:=by have:=h.map.2;rw [hm] at this;exact this
 have k2:Chg (fun k=>k=g.d) w (w.setCell ⟨g.d,6,none⟩ (.map (some w.heap.size))):=Chg.setCell (S:=fun k=>k=g.d) (Chg.refl _ _) (fun _=>rfl) _
 have hsz:(w.setCell ⟨g.d,6,none⟩ (.map (some w.heap.size))).heap.size=w.heap.size:=by simp [World.setCell]
 have hd:g.d<w.heap.size:=h.lt _ (mem_fp_d g)
 have hh:=heap_setCell_same w g.d 6 _ _ (.map (some w.heap.size)) h.head
 refine ⟨⟨?_,?_,?_,?_,?_⟩,⟨?_,?_,rfl⟩⟩
 ·show ((w.setCell ⟨g.d,6,none⟩ (.map (some w.heap.size))).alloc (.map #[] 0)).heap[g.d]? = _
  rw [Below.heap_alloc _ _ _ (by rw [hsz];exact hd),hh]
  rfl
 ·show MapIn _ (some w.heap.size) g.es
  rw [hes]
  have:=MapIn.made (w.setCell ⟨g.d,6,none⟩ (.map (some w.heap.size)))
  rwa [hsz] at this
 ·intro e he
  have:e∈g.es:=he
  rw [hes] at this
  cases this
 ·unfold Gh.fp
  simp only
  rw [hes]
  simp
  omega
 ·exact h.fs
 ·exact (k2.wide (fun k _ hk=>hk▸mem_fp_d g)).trans (Chg.alloc (fun _=>False) (Chg.refl _ _) _) (fun _ _ x=>x.elim)
 ·intro k hk
  unfold Gh.fp at hk
  simp only at hk
  rw [hes] at hk
  simp at hk
  rcases hk with rfl|rfl
  ·exact .inl (mem_fp_d g)
  ·exact .inr (Nat.le_refl _)
def newE (nm:ByteArray) (b:Nat):Ent:=⟨nm,b,.slice none 0 0,.slice none 0 0,.slice none 0 0,emptyF⟩
theorem newE_name (nm:ByteArray) (b:Nat):(newE nm b).name=nm:=rfl
theorem newE_blk (nm:ByteArray) (b:Nat):(newE nm b).blk=b:=rfl
theorem newE_at (w:World) (nm:ByteArray):EntAt (w.alloc (.cells #[.slice none 0 0,.slice none 0 0,.slice none 0 0] 185)) (newE nm w.heap.size):=
 ⟨heap_alloc_new w _,BytesAt.nil _,BytesAt.nil _,World.ownsRow_nil _ _ _ _,by simp [Ent.foot,newE,Value.ownBlock]⟩
theorem create_end {w w2 w4:World} {g g2:Gh} {st1:St} {nm:ByteArray} {m:Nat} (hT:Gh.To w g g2 w2) (hD:DiskAt w2 g2 st1) (hmb:g2.mb=some m)
 (hM:MapIn w4 (some m) (g2.es ++ [newE nm w2.heap.size])) (hG:(w2.alloc (.cells #[.slice none 0 0,.slice none 0 0,.slice none 0 0] 185)).grownBy w4 (some m)) :
 OpTo g 0 { st1 with fs:=st1.fs ++ [(nm,emptyF)]} w (.returned (.int .i64 0)) w4:=by
 have hD3:DiskAt (w2.alloc (.cells #[.slice none 0 0,.slice none 0 0,.slice none 0 0] 185)) g2 st1:=hD.new (Chg.alloc _ (Chg.refl _ _) _)
 have hC:=hD3.come hmb hM hG (newE_at w2 nm) (fun k hk hx=>by
  have h1:k=w2.heap.size:=by simpa [Ent.foot,newE,Value.ownBlock] using hk
  have:=hD.lt k hx
  omega)
 refine ⟨rfl,_,hC.1,hT.trans ?_⟩
 refine ⟨((Chg.alloc (fun _=>False) (Chg.refl _ _) _).wide (S':=(·∈g2.fp)) (fun _ _ x=>x.elim)).trans hC.2 (fun _ _ x=>x),fun k hk=>?_,rfl⟩
 have e1:({ g2 with es:=g2.es ++ [newE nm w2.heap.size]}:Gh).fp=g2.fp ++ (newE nm w2.heap.size).foot:=by
  unfold Gh.fp
  rw [List.flatMap_append]
  simp
 rw [e1] at hk
 rcases List.mem_append.1 hk with h1|h1
 ·exact .inl h1
 ·exact .inr (by have h2:k=w2.heap.size:=by simpa [Ent.foot,newE,Value.ownBlock] using h1
                 omega)
set_option maxHeartbeats 1000000 in
set_option maxRecDepth 100000 in
theorem create_any (g:Gh) (st:St) (nm:ByteArray) (w:World) (h:DiskAt w g st) (hm:nm.size≤maxLen) (hf:FuseOk st) (hn:st.fs.length≤1099511627776) :
 Calls Tryz.prog 69 #[.pointer (some ⟨g.d,0,none⟩),.string nm] w (OpTo g (createE st nm) (createS st nm) w):=by
 obtain ⟨c0,c1,c2,c3,c4,c5,c6,hz⟩:=h.cells
 have hr:=ready_any g st (.slice none 0 0) [] w h (nil_strs w) (fun t ht=>by cases ht) (by simp)
 have hlk:=h.map.look nm hm
 cases hq:st.down with
 | true=>
  rw [show ReadyTo st []=fun w e w'=>e = .returned (.int .i64 8)∧w=w' from by unfold ReadyTo readyE;rw [if_pos hq]] at hr
  have HR:=Lib.hid hr
  have HG:=Lib.hid h
  have HQ:=Lib.hid hq
  clear hr hlk h hq hz
  go_enter Tryz.func69,Tryz.ntmps69
  go_wp2_with (go_at_call 111;refine HR.out.mono ?_;rintro e w' ⟨rfl,rfl⟩)
  go_ret
  exact OpTo.congr ⟨rfl,g,HG.out,Gh.To.refl _ _⟩ (by unfold createE;rw [if_pos HQ.out]) (by unfold createS;rw [if_pos HQ.out])
 | false=>
  rw [show ReadyTo st []=fun w e w'=>e = .returned (.int .i64 0)∧w=w' from by unfold ReadyTo readyE;rw [if_neg (by rw [hq];simp)];rfl] at hr
  have HR:=Lib.hid hr
  have HG:=Lib.hid h
  have HQ:Hid (¬ st.down=true):=by intro hx;rw [hq] at hx;cases hx
  have hfind:=h.find nm
  clear hr h hq hz
  cases hg:getE g.es nm with
  | some e0=>
   rw [hg] at hlk hfind
   have HF:Hid (st.find nm=some e0.f):=hfind.symm
   simp only [Option.map_some] at hlk
   clear hg hfind
   go_enter Tryz.func69,Tryz.ntmps69
   go_wp2_with (go_at_call 111;refine HR.out.mono ?_;rintro e w' ⟨rfl,rfl⟩)
   go_ret
   exact OpTo.congr ⟨rfl,g,HG.out,Gh.To.refl _ _⟩ (by unfold createE;rw [if_neg HQ.out,if_pos (by rw [HF.out];rfl)]) (by unfold createS;rw [if_neg HQ.out,if_pos (by rw [HF.out];rfl)])
  | none=>
   rw [hg] at hlk hfind
   have HF:Hid (¬ (st.find nm).isSome=true):=by show ¬ _;rw [←hfind];simp
   have HGE:=Lib.hid hg
   simp only [Option.map_none] at hlk
   clear hg hfind
   have hb:=burn_any g st w HG.out hf.1 hf.2
   obtain ⟨k,hk⟩:∃ k,k=burnE st:=⟨_,rfl⟩
   have hk8:k=0∨k=8:=by rw [hk];unfold burnE;split<;>simp
   rw [show BurnTo g st w=fun e w'=>e = .returned (.int .i64 k)∧DiskAt w' g (burnS st)∧Gh.To w g g w' from by unfold BurnTo;rw [←hk]] at hb
   have HB:=Lib.hid hb
   have HK:=Lib.hid hk
   clear hb hk hf
   rcases hk8 with rfl|rfl
   ·cases hmb:g.mb with
    | none=>
     rw [hmb] at hlk c6
     have HMB:=Lib.hid hmb
     clear hmb
     go_enter Tryz.func69,Tryz.ntmps69
     go_wp2_with (first|(go_at_call 111;refine HR.out.mono ?_;rintro e w' ⟨rfl,rfl⟩)|(go_at_call 112;refine HB.out.mono ?_))
     rintro e w1 ⟨rfl,hd1,ht1⟩
     obtain ⟨_,_,_,_,_,_,d6,dz⟩:=hd1.cells
     rw [HMB.out] at d6
     have dz6:=dz 6
     have HD1:=Lib.hid hd1
     have HT1:=Lib.hid ht1
     clear hd1 ht1 dz
     have hmm:=@run_makeMap Tryz.prog
     have hlt:=HD1.out.lt _ (mem_fp_d g)
     have z6a:(w1.alloc (.map #[] 0)).frozen? ⟨g.d,6,none⟩=false:=(World.frozen?_of_block (w:=w1) (Below.heap_alloc w1 _ _ hlt)).trans dz6
     have d6a:(w1.alloc (.map #[] 0)).cell? ⟨g.d,6,none⟩=some (.map none):=(World.cell?_of_block (w:=w1) (Below.heap_alloc w1 _ _ hlt)).trans d6
     have hM:=HD1.out.made HMB.out
     have e6:=hM.1.cells.2.2.2.2.2.2.1
     simp only at e6
     have HM:=Lib.hid hM
     clear hM
     have hen:=fun w=>run_eql_map_nil (P:=Tryz.prog) w _ _ _ none Tryz.underlying126
     have hsz:((w1.setCell ⟨g.d,6,none⟩ (.map (some w1.heap.size))).alloc (.map #[] 0)).heap.size=w1.heap.size+1:=by simp [World.setCell]
     have HSZ:=Lib.hid hsz
     clear hsz
     have hge:getE g.es nm=none:=HGE.out
     have hen':g.es.length<maxLen:=by
      have h1:=congrArg List.length HG.out.fs
      rw [List.length_map] at h1
      rw [h1]
      unfold maxLen
      omega
     have HEN:=Lib.hid hen'
     clear hge hen'
     go_wp2_with (with_reducible refine wpList_store_ent rfl (.tmp 38) (.tmp 39) (.tmp 41) rfl w1.heap.size g.es nm (w1.heap.size+1) (newE nm (w1.heap.size+1)) rfl rfl rfl (newE_name _ _) (newE_blk _ _) ?c1 hm HGE.out HEN.out ?c2)
     case c1=>
      have:=(HM.out.1.new (Chg.alloc (fun _=>False) (Chg.refl _ _) (.cells #[.slice none 0 0,.slice none 0 0,.slice none 0 0] 185))).map
      exact this
     case c2=>
      intro w4 hm4 hg4
      have HM4:=Lib.hid hm4
      have HG4:=Lib.hid hg4
      clear hm4 hg4
      go_wp2_with fail
      go_ret
      have he:=create_end (nm:=nm) (HT1.out.trans HM.out.2) HM.out.1 rfl (by rw [HSZ.out];exact HM4.out) HG4.out
      exact OpTo.congr he (by unfold createE;rw [if_neg HQ.out,if_neg HF.out];exact HK.out) (by unfold createS;rw [if_neg HQ.out,if_neg HF.out,if_pos HK.out.symm,burnS_fs])
    | some m=>
     rw [hmb] at hlk c6
     have HMB:=Lib.hid hmb
     clear hmb
     go_enter Tryz.func69,Tryz.ntmps69
     go_wp2_with (first|(go_at_call 111;refine HR.out.mono ?_;rintro e w' ⟨rfl,rfl⟩)|(go_at_call 112;refine HB.out.mono ?_))
     rintro e w1 ⟨rfl,hd1,ht1⟩
     obtain ⟨_,_,_,_,_,_,d6,dz⟩:=hd1.cells
     rw [HMB.out] at d6
     have hen':g.es.length<maxLen:=by
      have h1:=congrArg List.length HG.out.fs
      rw [List.length_map] at h1
      rw [h1]
      unfold maxLen
      omega
     have HEN:=Lib.hid hen'
     have HD1:=Lib.hid hd1
     have HT1:=Lib.hid ht1
     clear hd1 ht1 dz hen'
     have hen:=fun w=>run_eql_map_nil (P:=Tryz.prog) w _ _ _ (some m) Tryz.underlying126
     simp only [Option.isNone_some] at hen
     go_wp2_with (with_reducible refine wpList_store_ent rfl (.tmp 38) (.tmp 39) (.tmp 41) rfl m g.es nm w1.heap.size (newE nm w1.heap.size) rfl rfl rfl (newE_name _ _) (newE_blk _ _) ?c1 hm HGE.out HEN.out ?c2)
     case c1=>
      have:=(HD1.out.new (Chg.alloc _ (Chg.refl _ _) (.cells #[.slice none 0 0,.slice none 0 0,.slice none 0 0] 185))).map
      rw [HMB.out] at this
      exact this
     case c2=>
      intro w4 hm4 hg4
      have HM4:=Lib.hid hm4
      have HG4:=Lib.hid hg4
      clear hm4 hg4
      go_wp2_with fail
      go_ret
      have he:=create_end (nm:=nm) HT1.out HD1.out HMB.out HM4.out HG4.out
      exact OpTo.congr he (by unfold createE;rw [if_neg HQ.out,if_neg HF.out];exact HK.out) (by unfold createS;rw [if_neg HQ.out,if_neg HF.out,if_pos HK.out.symm,burnS_fs])
   ·go_enter Tryz.func69,Tryz.ntmps69
    go_wp2_with (first|(go_at_call 111;refine HR.out.mono ?_;rintro e w' ⟨rfl,rfl⟩)|(go_at_call 112;refine HB.out.mono ?_;rintro e w1 ⟨rfl,hd1,ht1⟩))
    go_ret
    exact OpTo.congr ⟨rfl,g,hd1,ht1⟩ (by unfold createE;rw [if_neg HQ.out,if_neg HF.out];exact HK.out) (by unfold createS;rw [if_neg HQ.out,if_neg HF.out,if_neg (by rw [←HK.out];decide)])
def addF (f:FileM) (x:WriteM):FileM:=⟨f.image,putB f.bytes x.at_ x.s.data.toList,f.writes ++ [x]⟩
def more (f:FileM) (a n:Nat):Nat:=a+n - f.bytes.length
def writeE (st:St) (nm:ByteArray) (a:Int) (s:ByteArray):Int:=if st.down=true then 8 else match st.find nm with
 | none=>9
 | some f=>if a<0∨(f.bytes.length:Int)<a then 2 else if st.cap - st.size<more f a.toNat s.size then 7 else burnE st
def writeS (st:St) (nm:ByteArray) (a:Int) (s:ByteArray):St:=if st.down=true then st else match st.find nm with
 | none=>st
 | some f=>if a<0∨(f.bytes.length:Int)<a then st else if st.cap - st.size<more f a.toNat s.size then st else if burnE st=0 then
  (if s.size=0 then burnS st else { burnS st with size:=st.size+more f a.toNat s.size,turn:=st.turn+1,fs:=setF st.fs nm (addF f ⟨(st.turn:Int)+1,a.toNat,s⟩)}) else burnS st
theorem OpTo.below {g:Gh} {k:Int} {st:St} {w w':World} (h:DiskAt w g st) (hb:Below w.heap.size w w'):OpTo g k st w (.returned (.int .i64 k)) w':=
 ⟨rfl,g,h.new (Chg.of_below hb),Gh.To.new g (Chg.of_below hb)⟩
theorem OpTo.err {g:Gh} {k k':Int} {st st':St} {w w':World} (h:DiskAt w g st) (hb:Below w.heap.size w w') (h1:k=k') (h2:st=st'):OpTo g k' st' w (.returned (.int .i64 k)) w':=(OpTo.below h hb).congr h1 h2
theorem burn_k (st:St):burnE st=0∨burnE st=8:=by unfold burnE;split<;>simp
theorem burn_to {g:Gh} {st:St} {w:World} {k:Int} (hk:k=burnE st) (hc:Calls Tryz.prog 112 #[.pointer (some ⟨g.d,0,none⟩)] w (BurnTo g st w)) :
 Calls Tryz.prog 112 #[.pointer (some ⟨g.d,0,none⟩)] w fun e w'=>e = .returned (.int .i64 k)∧DiskAt w' g (burnS st)∧Gh.To w g g w':=by subst hk;exact hc
theorem burnS_size (st:St):(burnS st).size=st.size:=by unfold burnS;split<;>(try split)<;>rfl
theorem burnS_turn (st:St):(burnS st).turn=st.turn:=by unfold burnS;split<;>(try split)<;>rfl
theorem burnS_cap (st:St):(burnS st).cap=st.cap:=by unfold burnS;split<;>(try split)<;>rfl
theorem write_pre {g:Gh} {st:St} {w:World} (h:DiskAt w g (burnS st)) (q:Int) (m:Nat) (hq:q=((st.size+m:Nat):Int)) :
 DiskAt ((w.setCell ⟨g.d,4,none⟩ (.int .i64 q)).setCell ⟨g.d,5,none⟩ (.int .i64 ((st.turn:Int)+1))) g { burnS st with size:=st.size+m,turn:=st.turn+1 } ∧
  Gh.To w g g ((w.setCell ⟨g.d,4,none⟩ (.int .i64 q)).setCell ⟨g.d,5,none⟩ (.int .i64 ((st.turn:Int)+1))):=by
 have h1:=h.set 4 (.int .i64 q) { burnS st with size:=st.size+m } rfl (by rw [hq];rfl)
 have h2:=h1.1.set 5 (.int .i64 ((st.turn:Int)+1)) { burnS st with size:=st.size+m,turn:=st.turn+1 } rfl (by
  rw [show ((st.turn:Int)+1)=((st.turn+1:Nat):Int) by omega];rfl)
 exact ⟨h2.1,h1.2.trans h2.2⟩
theorem add_disk {g:Gh} {st:St} {w:World} (h:DiskAt w g st) {nm:ByteArray} {e0:Ent} (hg:getE g.es nm=some e0) (x:WriteM) (hx:e0.f.bytes.length≤1099511627776) (hw:e0.f.writes.length≤1099511627776) (ha:x.at_+x.s.size≤1099511627776) :
 Calls Tryz.prog 127 #[.pointer (some ⟨e0.blk,0,none⟩),.agg #[.int .i64 x.turn,.int .i64 x.at_,.string x.s]] w fun e w'=>e = .returned (.tuple #[])∧∃ g',DiskAt w' g' { st with fs:=setF st.fs nm (addF e0.f x)}∧Gh.To w g g' w':=by
 obtain ⟨hm,hn⟩:=getE_mem hg
 refine (add_any e0 x w (h.ents e0 hm) hx hw ha).mono fun e w' ⟨he,e',hf,ht⟩=>⟨he,{ g with es:=setE g.es e' },?_⟩
 have hu:=h.upd hm ht
 rw [hf,hn] at hu
 exact hu
set_option maxHeartbeats 4000000 in
set_option maxRecDepth 100000 in
theorem write_any (g:Gh) (st:St) (nm:ByteArray) (a:Int) (s:ByteArray) (w:World) (h:DiskAt w g st) (hm:nm.size≤maxLen) (hf:FuseOk st) (hs:s.size≤1073741824) (hc:st.cap≤16777216) (hr:st.size≤st.cap) (ht:st.turn≤1099511627776)
 (hfile:∀ f,st.find nm=some f→f.bytes.length≤1073741824∧f.writes.length≤1073741824) :
 Calls Tryz.prog 81 #[.pointer (some ⟨g.d,0,none⟩),.string nm,.int .i64 a,.string s] w (OpTo g (writeE st nm a s) (writeS st nm a s) w):=by
 cases hq:st.down with
 | true=>
  have hk:readyE st [nm]=8:=by unfold readyE;rw [if_pos hq]
  have HC:=Lib.hid (find_err g st nm w h hm 8 hk rfl)
  have HQ:=Lib.hid hq
  have HG:=Lib.hid h
  clear h hq hk hfile hf
  go_enter Tryz.func81,Tryz.ntmps81
  go_wp2_with (go_at_call 120;refine HC.out.mono ?_;rintro e w' ⟨rfl,hb⟩)
  go_ret
  exact OpTo.err HG.out hb (by unfold writeE;rw [if_pos HQ.out]) (by unfold writeS;rw [if_pos HQ.out])
 | false=>
  have hq':¬ st.down=true:=by rw [hq];simp
  cases hg:getE g.es nm with
  | none=>
   have hfd:=h.find nm
   rw [hg] at hfd
   have HF:Hid (st.find nm=none):=hfd.symm
   have hk:readyE st [nm]=9:=by rw [readyE_one,if_neg hq',if_neg (by rw [HF.out];simp)]
   have HC:=Lib.hid (find_err g st nm w h hm 9 hk rfl)
   have HQ:=Lib.hid hq'
   have HG:=Lib.hid h
   clear h hq hk hg hfd hq' hfile hf
   go_enter Tryz.func81,Tryz.ntmps81
   go_wp2_with (go_at_call 120;refine HC.out.mono ?_;rintro e w' ⟨rfl,hb⟩)
   go_ret
   exact OpTo.err HG.out hb (by unfold writeE;rw [if_neg HQ.out,HF.out]) (by unfold writeS;rw [if_neg HQ.out,HF.out])
  | some e0=>
   have hfd:=h.find nm
   rw [hg] at hfd
   have HF:Hid (st.find nm=some e0.f):=hfd.symm
   obtain ⟨hn1,hn2⟩:=hfile e0.f HF.out
   have HC:=Lib.hid (find_ok g st nm w h hm hq e0 hg)
   unfold pk at HC
   have HQ:=Lib.hid hq'
   have HG:=Lib.hid h
   have HGE:=Lib.hid hg
   have HFU:=Lib.hid hf
   obtain ⟨n,hn⟩:∃ n,n=e0.f.bytes.length:=⟨_,rfl⟩
   rw [←hn] at hn1
   have HN:=Lib.hid hn
   clear h hq hg hfd hq' hfile hf hn
   by_cases ha0:a<0
   ·go_enter Tryz.func81,Tryz.ntmps81
    go_wp2_with (go_at_call 120;refine HC.out.mono ?_;rintro e w1 ⟨rfl,hb⟩)
    go_ret
    exact OpTo.err HG.out hb (by unfold writeE;rw [if_neg HQ.out,HF.out];simp only;rw [if_pos (.inl ha0)]) (by unfold writeS;rw [if_neg HQ.out,HF.out];simp only;rw [if_pos (.inl ha0)])
   ·have hk1:∀ w1:World,Below w.heap.size w w1→∃ p c,w1.cell? ⟨e0.blk,1,none⟩=some (.slice p n c):=fun w1 hb=>by
     have hE:EntAt w1 e0:=(HG.out.ents e0 (getE_mem HGE.out).1).chg (Chg.of_below (S:=fun _=>False) hb) (fun _ _ x=>x)
     obtain ⟨p,c,hv⟩:=hE.bytes.slice
     exact ⟨p,c,by rw [hE.cells.2.1,hv,HN.out]⟩
    have HK1:=Lib.hid hk1
    clear hk1
    by_cases ha1:(n:Int)<a
    ·go_enter Tryz.func81,Tryz.ntmps81
     go_wp2_with (go_at_call 120;refine HC.out.mono ?_;rintro e w1 ⟨rfl,hb⟩;obtain ⟨p,c,k1⟩:=HK1.out w1 hb)
     go_ret
     exact OpTo.err HG.out hb (by unfold writeE;rw [if_neg HQ.out,HF.out];simp only;rw [if_pos (.inr (by rw [←HN.out];exact ha1))]) (by unfold writeS;rw [if_neg HQ.out,HF.out];simp only;rw [if_pos (.inr (by rw [←HN.out];exact ha1))])
    ·obtain ⟨i,hi⟩:∃ i:Nat,a=i:=⟨a.toNat,by omega⟩
     subst hi
     have hin:i≤n:=by omega
     have hE1:writeE st nm i s=if st.cap - st.size<i+s.size - n then 7 else burnE st:=by
      unfold writeE
      rw [if_neg HQ.out,HF.out]
      simp only
      rw [if_neg (by rw [←HN.out];omega),more,←HN.out,Int.toNat_natCast]
     have hS1:writeS st nm i s=if st.cap - st.size<i+s.size - n then st else if burnE st=0 then (if s.size=0 then burnS st else { burnS st with size:=st.size+(i+s.size - n),turn:=st.turn+1,fs:=setF st.fs nm (addF e0.f ⟨(st.turn:Int)+1,i,s⟩)}) else burnS st:=by
      unfold writeS
      rw [if_neg HQ.out,HF.out]
      simp only
      rw [if_neg (by rw [←HN.out];omega),more,←HN.out,Int.toNat_natCast]
     rw [hE1,hS1]
     clear hE1 hS1 ha0 ha1
     have hrI:(0:Int)≤(st.cap:Int) - (st.size:Int):=by omega
     by_cases hfull:st.cap - st.size<i+s.size - n
     ·rw [if_pos hfull,if_pos hfull]
      have hgt:(0:Int)<(i:Int)+s.size - n:=by omega
      have hfI:(st.cap:Int) - (st.size:Int)<(i:Int)+s.size - n:=by omega
      go_enter Tryz.func81,Tryz.ntmps81
      go_wp2_with (first
       | (go_at_call 120;refine HC.out.mono ?_;rintro e w1 ⟨rfl,hb⟩;obtain ⟨p,c,k1⟩:=HK1.out w1 hb)
       | (go_at_call 117;refine (room_any g st _ (HG.out.new (Chg.of_below hb)) hr hc).mono ?_;rintro e w2 ⟨rfl,kd,rfl⟩))
      go_ret
      exact OpTo.below HG.out (below_drewN hb _)
     ·rw [if_neg hfull,if_neg hfull]
      obtain ⟨k,hk⟩:∃ k,k=burnE st:=⟨_,rfl⟩
      have hk8:=burn_k st
      rw [←hk] at hk8 ⊢
      have HK:=Lib.hid hk
      clear hk
      rcases hk8 with rfl|rfl
      ·rw [if_pos rfl]
       by_cases hs0:s.size=0
       ·rw [if_pos hs0]
        have hsz:s.size=0:=hs0
        have hs00:s.data.toList=[]:=List.length_eq_zero_iff.1 (by rw [Array.length_toList];exact hs0)
        have hse:s.toList.isEmpty=true:=by rw [ByteArray.toList_eq,hs00];rfl
        have hsn:s.toList=[]:=by rw [ByteArray.toList_eq,hs00]
        clear hs00
        clear hs0
        go_enter Tryz.func81,Tryz.ntmps81
        go_wp2_with (first
         | (go_at_call 120;refine HC.out.mono ?_;rintro e w1 ⟨rfl,hb⟩;obtain ⟨p,c,k1⟩:=HK1.out w1 hb)
         | (go_at_call 117;refine (room_any g st _ (HG.out.new (Chg.of_below hb)) hr hc).mono ?_;rintro e w2 ⟨rfl,kd,rfl⟩)
         | (go_at_call 112;refine (burn_to HK.out (burn_any g st _ (HG.out.new ((Chg.of_below hb).drewN kd)) HFU.out.1 HFU.out.2)).mono ?_;rintro e w3 ⟨rfl,hd3,ht3⟩))
        all_goals (try (exfalso;omega))
        all_goals
         go_ret
         exact ⟨rfl,g,hd3,(Gh.To.new g ((Chg.of_below hb).drewN kd)).trans ht3⟩
       ·rw [if_neg hs0]
        have hse:s.toList.isEmpty=false:=by
         have hx:s.data.toList≠[]:=fun e=>hs0 (by have:=congrArg List.length e;rw [Array.length_toList] at this;exact this)
         rw [ByteArray.toList_eq];simpa using hx
        have hsn:¬ s.toList=[]:=by simpa using hse
        have hsp:0<s.size:=by omega
        clear hs0
        go_enter Tryz.func81,Tryz.ntmps81
        go_wp2_with (first
         | (go_at_call 120;refine HC.out.mono ?_;rintro e w1 ⟨rfl,hb⟩;obtain ⟨p,c,k1⟩:=HK1.out w1 hb)
         | (go_at_call 117;refine (room_any g st _ (HG.out.new (Chg.of_below hb)) hr hc).mono ?_;rintro e w2 ⟨rfl,kd,rfl⟩)
         | (go_at_call 112;refine (burn_to HK.out (burn_any g st _ (HG.out.new ((Chg.of_below hb).drewN kd)) HFU.out.1 HFU.out.2)).mono ?_))
        all_goals (try (exfalso;omega))
        all_goals
         rintro e w3 rfl hd3 ht3
         obtain ⟨_,_,_,_,d4,d5,_,dz⟩:=hd3.cells
         rw [burnS_size] at d4
         rw [burnS_turn] at d5
         have z4:=dz 4
         have z5:=dz 5
         have HD3:=Lib.hid hd3
         have HT3:=Lib.hid ht3
         clear hd3 ht3 dz
         go_wp2_with fail
        ·have hm0:i+s.size - n=0:=by omega
         have hp:=write_pre HD3.out (st.size:Int) (i+s.size - n) (by omega)
         have HP:=Lib.hid hp
         clear hp hm0
         refine (add_disk HP.out.1 HGE.out ⟨(st.turn:Int)+1,i,s⟩ (by rw [←HN.out];omega) (by omega) (by simp only;omega)).mono ?_
         rintro e w6 ⟨rfl,g',hd6,ht6⟩
         have HD6:=Lib.hid hd6
         have HT6:=Lib.hid ht6
         clear hd6 ht6
         go_wp2_with fail
         go_ret
         refine ⟨rfl,g',?_,(((Gh.To.new g ((Chg.of_below hb).drewN kd)).trans HT3.out).trans HP.out.2).trans HT6.out⟩
         have:=HD6.out
         rw [burnS_fs] at this
         exact this
        ·have hp:=write_pre HD3.out ((st.size:Int)+((i:Int)+s.size - n)) (i+s.size - n) (by omega)
         have HP:=Lib.hid hp
         clear hp
         refine (add_disk HP.out.1 HGE.out ⟨(st.turn:Int)+1,i,s⟩ (by rw [←HN.out];omega) (by omega) (by simp only;omega)).mono ?_
         rintro e w6 ⟨rfl,g',hd6,ht6⟩
         have HD6:=Lib.hid hd6
         have HT6:=Lib.hid ht6
         clear hd6 ht6
         go_wp2_with fail
         go_ret
         refine ⟨rfl,g',?_,(((Gh.To.new g ((Chg.of_below hb).drewN kd)).trans HT3.out).trans HP.out.2).trans HT6.out⟩
         have:=HD6.out
         rw [burnS_fs] at this
         exact this
      ·rw [if_neg (by decide)]
       go_enter Tryz.func81,Tryz.ntmps81
       go_wp2_with (first
        | (go_at_call 120;refine HC.out.mono ?_;rintro e w1 ⟨rfl,hb⟩;obtain ⟨p,c,k1⟩:=HK1.out w1 hb)
        | (go_at_call 117;refine (room_any g st _ (HG.out.new (Chg.of_below hb)) hr hc).mono ?_;rintro e w2 ⟨rfl,kd,rfl⟩)
        | (go_at_call 112;refine (burn_to HK.out (burn_any g st _ (HG.out.new ((Chg.of_below hb).drewN kd)) HFU.out.1 HFU.out.2)).mono ?_;rintro e w3 ⟨rfl,hd3,ht3⟩))
       all_goals (try (exfalso;omega))
       all_goals
        go_ret
        exact ⟨rfl,g,hd3,(Gh.To.new g ((Chg.of_below hb).drewN kd)).trans ht3⟩
end Go.Proofs.YtajmeimjaapagaaGreatDoor
