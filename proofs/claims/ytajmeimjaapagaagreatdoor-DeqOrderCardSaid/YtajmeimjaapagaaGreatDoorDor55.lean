/- A part. -/
import Derived.Test.YtajmeimjaapagaaGreatDoorDor48
import Derived.Test.YtajmeimjaapagaaGreatDoorDor54
set_option linter.unusedVariables false
set_option linter.unusedSimpArgs false
namespace Go.Proofs.YtajmeimjaapagaaGreatDoor
open Go.RowKit Go.Deep
attribute [local go_sem] fr_opt
def LFp (lb wb:Nat) (g:Gh):Nat→Prop:=fun q=>q=lb∨q=wb∨q∈g.fp
structure FTo (F:Nat→Prop) (w:World) (F':Nat→Prop) (w':World):Prop where
 chg:Chg F w w'
 fp:∀ q,F' q→F q∨w.heap.size≤q
theorem LTo.fto {lb wb:Nat} {w w':World} {g g':Gh} (h:LTo lb wb w g g' w'):FTo (LFp lb wb g) w (LFp lb wb g') w':=⟨h.chg,fun q hq=>by
 rcases hq with e|e|e
 ·exact .inl (.inl e)
 ·exact .inl (.inr (.inl e))
 ·rcases h.fp q e with a|a
  ·exact .inl (.inr (.inr a))
  ·exact .inr a⟩
structure LgS (w0 w:World) (F:Nat→Prop) (lb n:Nat) (hd:Int) (cnt cap:Nat) (C:Nat→List MkM):Prop where
 ex:∃ wb g st L ms,F=LFp lb wb g∧LgC w0 w lb wb g st n hd L ms C∧ms.length=cnt∧st.cap=cap
section
variable {w0 w w':World} {F:Nat→Prop} {lb n cnt cap:Nat} {hd:Int} {C:Nat→List MkM}
theorem LgS.of {wb:Nat} {g:Gh} {st:St} {L:List Nat} {ms:List MkM} (h:LgC w0 w lb wb g st n hd L ms C) (h1:ms.length=cnt) (h2:st.cap=cap):LgS w0 w (LFp lb wb g) lb n hd cnt cap C:=⟨wb,g,st,L,ms,rfl,h,h1,h2⟩
theorem LgS.new (h:LgS w0 w F lb n hd cnt cap C) (hc:Chg (fun _=>False) w w'):LgS w0 w' F lb n hd cnt cap C:=by
 obtain ⟨wb,g,st,L,ms,e,hC,h1,h2⟩:=h.ex
 exact ⟨wb,g,st,L,ms,e,hC.new hc,h1,h2⟩
theorem LgS.low (h:LgS w0 w F lb n hd cnt cap C):∀ q,F q→w0.heap.size≤q∧q<w.heap.size:=by
 obtain ⟨wb,g,st,L,ms,rfl,hC,h1,h2⟩:=h.ex
 intro q hq
 rcases hq with rfl|rfl|hq
 ·exact ⟨hC.i.low,hC.i.lt⟩
 ·exact ⟨hC.i.wh.low,hC.i.wh.lt⟩
 ·exact ⟨hC.i.wh.glow q hq,hC.i.wh.disk.lt q hq⟩
theorem LgS.chgd {S:Nat→Prop} (h:LgS w0 w F lb n hd cnt cap C) (hc:Chg S w w') (hS:∀ q,F q→¬ S q) (h0:∀ q,q<w0.heap.size→¬ S q):LgS w0 w' F lb n hd cnt cap C:=by
 obtain ⟨wb,g,st,L,ms,rfl,hC,h1,h2⟩:=h.ex
 exact ⟨wb,g,st,L,ms,rfl,⟨hC.i.chgd hc (hS lb (.inl rfl)) (hS wb (.inr (.inl rfl))) (fun q hq=>hS q (.inr (.inr hq))) h0,hC.chain⟩,h1,h2⟩
theorem LgS.below (h:LgS w0 w F lb n hd cnt cap C):Below w0.heap.size w0 w:=by
 obtain ⟨wb,g,st,L,ms,rfl,hC,h1,h2⟩:=h.ex
 exact hC.i.wh.below
theorem shand (h:LgS w0 w F lb n hd cnt cap C):Calls Tryz.prog 11 #[.pointer (some ⟨lb,0,none⟩)] w fun e w'=>e = .returned (.int .i64 hd)∧w=w':=by
 obtain ⟨wb,g,st,L,ms,rfl,hC,h1,h2⟩:=h.ex
 exact lghand_any hC.i
def SPut (w0 w:World) (F:Nat→Prop) (lb n:Nat) (hd:Int) (cnt cap:Nat) (C:Nat→List MkM) (due rc:Nat) (e:Ending) (w':World):Prop:=
 e = .returned (.int .i64 0)∧∃ F' a,LgS w0 w' F' lb (n+2) hd (cnt+1) cap (updC C (due % 16) (C (due % 16) ++ [⟨due,rc,a,1⟩]))∧FTo F w F' w'
theorem sput_ok (h:LgS w0 w F lb n hd cnt cap C) (hn:n≤899000) (due rc:Nat) (hdue:due≤1099511627776) (hrc:rc≤1099511627776) (hlt:hd<due) (hr:96+20*(cnt+1)≤cap) :
 Calls Tryz.prog 13 #[.pointer (some ⟨lb,0,none⟩),.int .i64 (due:Int),.int .i64 (rc:Int)] w (SPut w0 w F lb n hd cnt cap C due rc):=by
 obtain ⟨wb,g,st,L,ms,rfl,hC,rfl,rfl⟩:=h.ex
 refine (lput_ok hC hn due rc hdue hrc hlt (by omega)).mono ?_
 rintro e w' ⟨rfl,g',st',L',ms',a,h',ht,hl,hc⟩
 exact ⟨rfl,_,a,LgS.of h' hl hc,ht.fto⟩
def SNext (w0 w:World) (F:Nat→Prop) (lb n:Nat) (hd:Nat) (cnt cap:Nat) (C:Nat→List MkM) (e:Ending) (w':World):Prop:=
 ∃ v F' k,e = .returned (.tuple #[v,.bool true,.int .i64 0])∧LgS w0 w' F' lb (n+2) ((hd+1:Nat):Int) (cnt+(farL (C ((hd+1) % 16)) ((hd+1:Nat):Int)).length) cap (updC C ((hd+1) % 16) (addM k 0 (farL (C ((hd+1) % 16)) ((hd+1:Nat):Int))))∧FTo F w F' w'∧MRow w' v (dueL (C ((hd+1) % 16)) ((hd+1:Nat):Int))∧∀ q,v.ownBlock=some q→w.heap.size≤q
theorem snext_on {hd:Nat} (h:LgS w0 w F lb n (hd:Int) cnt cap C) (hn:n≤899000) (now:Int) (hlt:(hd:Int)<now) (hnow:now≤4611686018427387904) (hr:96+20*(cnt+(farL (C ((hd+1) % 16)) ((hd+1:Nat):Int)).length)≤cap) :
 Calls Tryz.prog 85 #[.pointer (some ⟨lb,0,none⟩),.int .i64 now] w (SNext w0 w F lb n hd cnt cap C):=by
 obtain ⟨wb,g,st,L,ms,rfl,hC,rfl,rfl⟩:=h.ex
 refine (lnext_on hC hn now hlt hnow (by omega)).mono ?_
 rintro e w' ⟨v,g',st',L',ms',rfl,h',ht,hv,hl,hc,hov⟩
 exact ⟨v,_,_,rfl,LgS.of h' hl hc,ht.fto,hv,hov⟩
theorem snext_off (h:LgS w0 w F lb n hd cnt cap C) (now:Int) (hle:now≤hd) (h0:0≤hd) (hx:hd≤4611686018427387904) :
 Calls Tryz.prog 85 #[.pointer (some ⟨lb,0,none⟩),.int .i64 now] w fun e w'=>e = .returned (.tuple #[.slice none 0 0,.bool false,.int .i64 0])∧Below w.heap.size w w':=by
 obtain ⟨wb,g,st,L,ms,rfl,hC,h1,h2⟩:=h.ex
 exact lnext_off hC.i now hle h0 hx
end
theorem wfind_snoc {st:St} {nm x:ByteArray} {f F:FileM} (h:st.find nm=some f):St.find { st with fs:=st.fs ++ [(x,F)]} nm=some f:=by
 unfold St.find at h ⊢
 show ((st.fs ++ [(x,F)]).find? _).map _=_
 rw [List.find?_append]
 cases hx:st.fs.find? (fun p=>decide (p.1=nm)) with
 | none=>rw [hx] at h;cases h
 | some p=>rw [hx] at h;exact h
theorem wfind_made {st:St} {nm:ByteArray} {F:FileM} (h:st.find nm=none):St.find { st with fs:=st.fs ++ [(nm,F)]} nm=some F:=by
 unfold St.find at h ⊢
 show ((st.fs ++ [(nm,F)]).find? _).map _=_
 rw [List.find?_append]
 rw [Option.map_eq_none_iff] at h
 rw [h]
 simp
def noC:Nat→List MkM:=fun _=>[]
def SNew (w0 w:World) (hand:Int) (cap:Nat) (e:Ending) (w':World):Prop:=∃ lb F,e = .returned (.tuple #[.pointer (some ⟨lb,0,none⟩),.int .i64 0])∧LgS w0 w' F lb 3 hand 0 cap noC
theorem fresh_begin (c:Int) (hc:96≤min (max c 0) 16777216):Ease 2 (wBegS (newSt c) (wNames wH (newSt c)))∧(wBegS (newSt c) (wNames wH (newSt c))).find wM=none∧(wBegS (newSt c) (wNames wH (newSt c))).size=96∧((wBegS (newSt c) (wNames wH (newSt c))).cap:Int)=min (max c 0) 16777216:=by
 have hcap:((newSt c).cap:Int)=min (max c 0) 16777216:=by show (((min (max c 0) 16777216).toNat:Nat):Int)=_;omega
 have hsz:(newSt c).size=0:=rfl
 obtain ⟨_,m2,m3⟩:=wmade (Ease.new c) (by rw [hsz,hcap];omega)
 obtain ⟨f,hf⟩:=m3.fs
 have hnil:(deleteAll (newSt c) (wNames wH (newSt c))).fs=[]:=by
  rw [List.eq_nil_iff_forall_not_mem]
  intro p hp
  have:=deleteAll_mem _ _ _ hp
  cases this
 rw [hnil,List.nil_append] at hf
 obtain ⟨f2,hf2,hb2⟩:=m3.find
 have hff:f2=f:=by
  unfold St.find at hf2
  rw [hf] at hf2
  simp at hf2
  exact hf2.symm
 subst hff
 refine ⟨m2,?_,?_,by rw [m3.cap,hcap]⟩
 ·unfold St.find
  rw [hf]
  simp [wM_ne.symm]
 ·rw [m2.good.sum,hf]
  show (List.map (fun p:ByteArray×FileM=>p.2.bytes.length) [(wS,f2)]).sum=96
  rw [List.map_cons,List.map_nil,List.sum_cons,List.sum_nil]
  show f2.bytes.length+0=96
  rw [hb2,wbytes_length,List.length_replicate]
set_option maxHeartbeats 2000000 in
set_option maxRecDepth 100000 in
theorem snew_any {w0 w w':World} (hc:Chg (fun _=>False) w0 w) (hand c:Int) (hcap:96≤min (max c 0) 16777216) (hd:DiskAt w' ⟨w.heap.size,none,[]⟩ (newSt c)) (hb:Below w.heap.size w w') (h0:0≤hand) (h1:hand≤1099511627776) :
 Calls Tryz.prog 31 #[.pointer (some ⟨w.heap.size,0,none⟩),.int .i64 hand] w' (SNew w0 w' hand (min (max c 0) 16777216).toNat):=by
 have hcc:((newSt c).cap:Int)=min (max c 0) 16777216:=by show (((min (max c 0) 16777216).toNat:Nat):Int)=_;omega
 have hsz:(newSt c).size=0:=rfl
 have hN:=wnew_ease (w0:=w0) (w:=w') (g:=⟨w.heap.size,none,[]⟩) (st:=newSt c) (n:=0) (hand:=hand) hd (hc.trans (Chg.of_below hb:Chg (fun _=>False) w w') (fun _ _ x=>x)) (fun q hq=>by simp [Gh.fp] at hq;rw [hq];exact hc.size) (Ease.new c) (by decide) (by rw [hsz,hcc];omega) (fun p hp=>by cases hp) h0 h1
 obtain ⟨b1,b2,b3,b4⟩:=fresh_begin c hcap
 obtain ⟨st1,hst1⟩:∃ s,s=wBegS (newSt c) (wNames wH (newSt c)):=⟨_,rfl⟩
 unfold WNewOk at hN
 rw [←hst1] at hN b1 b2 b3 b4
 obtain ⟨e1,e2,e3⟩:=ease_createF b1 b2
 have hcr:∀ wb g1 W,WhI w0 W wb g1 st1 2 hand wZero→W.cell? ⟨wb,0,none⟩=some (.pointer (some ⟨g1.d,0,none⟩))∧Calls Tryz.prog 69 #[.pointer (some ⟨g1.d,0,none⟩),.string wM] W fun e w2=>e = .returned (.int .i64 0) ∧
  ∀ W2 b,W2=w2.alloc (.cells #[.pointer (some ⟨wb,0,none⟩),.int .i64 0] 83)→b=w2.heap.size→SNew w0 w' hand (min (max c 0) 16777216).toNat (.returned (.tuple #[.pointer (some ⟨b,0,none⟩),.int .i64 0])) W2:=fun wb g1 W hW=>by
  refine ⟨hW.cells.1,?_⟩
  have:=create_any g1 st1 wM W hW.disk (by decide) b1.good.fuse (by have:=b1.good.len;omega)
  refine this.mono ?_
  rintro e w2 ⟨he,g2,hd2,ht2⟩
  rw [e1] at he
  refine ⟨he,?_⟩
  rintro W2 b hW2 rfl
  have hz1:=hW.chg.size
  have hz2:=ht2.chg.size
  have hcA:Chg (fun _=>False) w2 W2:=hW2▸Chg.alloc _ (Chg.refl _ _) _
  have hwh:WhI w0 w2 wb g2 (createS st1 wM) 3 hand wZero:=by
   obtain ⟨f,hf,hfb⟩:=hW.file
   refine ⟨hd2,hW.chg.trans ht2.chg (fun q hq hx=>by have:=hW.glow q hx;omega),fun q hq=>?_,e3,?_,hW.low,fun hx=>?_,⟨f,?_,hfb⟩,hW.len,hW.ok⟩
   ·rcases ht2.fp q hq with a|a
    ·exact hW.glow q a
    ·omega
   ·rw [ht2.d]
    exact ht2.chg.heap hW.cell hW.out
   ·rcases ht2.fp wb hx with a|a
    ·exact hW.out a
    ·have:=hW.lt;omega
   ·rw [e2]
    exact wfind_snoc hf
  have hwlt:wb<w2.heap.size:=hwh.lt
  have hz0:=hc.size
  have hzb:=hb.size
  refine ⟨w2.heap.size,LFp w2.heap.size wb g2,rfl,wb,g2,createS st1 wM,wZero,[],rfl,⟨⟨hwh.new hcA,by rw [hW2];exact heap_alloc_new _ _,by have:=hwh.chg.size;omega,fun hx=>by have:=hd2.lt _ hx;omega,by omega,⟨emptyF,by rw [e2];exact wfind_made b2,rfl⟩,fun m hm=>(by cases hm),by rw [e2];exact b3⟩,fun s hs=>?_⟩,rfl,by rw [e2];show st1.cap=_;omega⟩
  show wZero.getD s 0=0
  unfold wZero
  rw [List.getD_eq_getElem?_getD,List.getElem?_replicate]
  split<;>rfl
 have HN:=Lib.hid hN
 have HC:=Lib.hid hcr
 clear hc hd hb h0 h1 hcc hsz hN b1 b2 b3 b4 hst1 e1 e2 e3 hcr hcap
 go_enter Tryz.func31,Tryz.ntmps31
 go_wp2_with fail
 refine HN.out.mono ?_
 rintro e w1 ⟨wb,g1,rfl,_,hW,_⟩
 have hx:=HC.out wb g1 w1 hW
 have k0:=hx.1
 have HX:=Lib.hid hx.2
 clear hW hx
 go_wp2_with fail
 refine HX.out.mono ?_
 rintro e w2 ⟨rfl,hfin⟩
 have HF:=Lib.hid (hfin _ _ rfl rfl)
 clear hfin
 go_wp2_with fail
 go_ret2
 exact HF.out
end Go.Proofs.YtajmeimjaapagaaGreatDoor
namespace Go.Proofs.YtajmeimjaapagaaGreatDoor
open Go.RowKit Go.Deep
structure TJ (w0 w:World) (F:Nat→Prop) (lb n hd P cap:Nat) (ws:WL):Prop where
 ex:∃ C cnt,LgS w0 w F lb n (hd:Int) cnt cap C∧RelC C ws∧16*cnt+potL hd ws≤P
 later:∀ p∈ws,hd<p.1
section
variable {w0 w w':World} {F:Nat→Prop} {lb n hd P cap:Nat} {ws:WL}
theorem TJ.new (h:TJ w0 w F lb n hd P cap ws) (hc:Chg (fun _=>False) w w'):TJ w0 w' F lb n hd P cap ws:=by
 obtain ⟨C,cnt,h1,h2,h3⟩:=h.ex
 exact ⟨⟨C,cnt,h1.new hc,h2,h3⟩,h.later⟩
theorem TJ.chgd {S:Nat→Prop} (h:TJ w0 w F lb n hd P cap ws) (hc:Chg S w w') (hS:∀ q,F q→¬ S q) (h0:∀ q,q<w0.heap.size→¬ S q):TJ w0 w' F lb n hd P cap ws:=by
 obtain ⟨C,cnt,h1,h2,h3⟩:=h.ex
 exact ⟨⟨C,cnt,h1.chgd hc hS h0,h2,h3⟩,h.later⟩
theorem TJ.low (h:TJ w0 w F lb n hd P cap ws):∀ q,F q→w0.heap.size≤q∧q<w.heap.size:=by
 obtain ⟨C,cnt,h1,h2,h3⟩:=h.ex
 exact h1.low
theorem TJ.hand (h:TJ w0 w F lb n hd P cap ws):Calls Tryz.prog 11 #[.pointer (some ⟨lb,0,none⟩)] w fun e w'=>e = .returned (.int .i64 (hd:Int))∧w=w':=by
 obtain ⟨C,cnt,h1,h2,h3⟩:=h.ex
 exact shand h1
theorem TJ.put (h:TJ w0 w F lb n hd P cap ws) (hn:n≤899000) (due rc:Nat) (hdue:due≤1099511627776) (hrc:rc≤1099511627776) (hlt:hd<due) (hr:96+20*(P / 16+1)≤cap) :
 Calls Tryz.prog 13 #[.pointer (some ⟨lb,0,none⟩),.int .i64 (due:Int),.int .i64 (rc:Int)] w fun e w'=>e = .returned (.int .i64 0)∧∃ F',TJ w0 w' F' lb (n+2) hd (P+31) cap (ws ++ [(due,rc)])∧FTo F w F' w':=by
 obtain ⟨C,cnt,h1,h2,h3⟩:=h.ex
 refine (sput_ok h1 hn due rc hdue hrc (by omega) (by omega)).mono ?_
 rintro e w' ⟨rfl,F',a,h',ht⟩
 refine ⟨rfl,F',⟨⟨_,_,h',h2.put due rc a,?_⟩,fun p hp=>?_⟩,ht⟩
 ·rw [potL_app]
  show 16*(cnt+1)+(potL hd ws+((15 - (due - hd - 1) % 16)+0))≤_
  omega
 ·rcases List.mem_append.1 hp with a|a
  ·exact h.later p a
  ·rw [List.mem_singleton.1 a];exact hlt
structure Told (w:World) (v:Value) (x:Nat) (l:List MkM) (cs:WL):Prop where
 row:MRow w v l
 eq:l.map mkP=cs
 ps:∀ m∈l,1≤m.ps
theorem TJ.next (h:TJ w0 w F lb n hd P cap ws) (hn:n≤899000) (now:Int) (h1:(hd:Int)<now) (h2:now≤4611686018427387904) (hr:96+20*((P+ws.length) / 16)≤cap) :
 Calls Tryz.prog 85 #[.pointer (some ⟨lb,0,none⟩),.int .i64 now] w fun e w'=>∃ v F' l,e = .returned (.tuple #[v,.bool true,.int .i64 0])∧TJ w0 w' F' lb (n+2) (hd+1) (P+ws.length) cap (restL ws (hd+1))∧FTo F w F' w'∧Told w' v (hd+1) l (comeL ws (hd+1))∧∀ q,v.ownBlock=some q→w.heap.size≤q:=by
 obtain ⟨C,cnt,hC,hrel,hP⟩:=h.ex
 have hl:∀ p∈ws,hd+1≤p.1:=fun p hp=>h.later p hp
 have hpot:=pot_next hd ws h.later
 have hfl:(farL (C ((hd+1) % 16)) ((hd+1:Nat):Int)).length=((slotL ws ((hd+1) % 16)).filter fun p=>decide (hd+1<p.1)).length:=by rw [←far_map hrel,List.length_map]
 rw [←hfl] at hpot
 refine (snext_on hC hn now h1 h2 (by omega)).mono ?_
 rintro e w' ⟨v,F',k,rfl,h',ht,hv,hov⟩
 refine ⟨v,F',_,rfl,⟨⟨_,_,h',hrel.next hl k,by omega⟩,rest_later h.later⟩,ht,⟨hv,due_map hrel hl,fun m hm=>?_⟩,hov⟩
 exact hrel.ps _ (Nat.mod_lt _ (by decide)) m (List.mem_filter.1 hm).1
theorem TJ.off (h:TJ w0 w F lb n hd P cap ws) (now:Int) (hle:now≤hd) (hx:(hd:Int)≤4611686018427387904) :
 Calls Tryz.prog 85 #[.pointer (some ⟨lb,0,none⟩),.int .i64 now] w fun e w'=>e = .returned (.tuple #[.slice none 0 0,.bool false,.int .i64 0])∧Below w.heap.size w w':=by
 obtain ⟨C,cnt,h1,h2,h3⟩:=h.ex
 exact snext_off h1 now hle (Int.natCast_nonneg _) hx
end
theorem Told.len {w:World} {v:Value} {x:Nat} {l:List MkM} {cs:WL} (h:Told w v x l cs):l.length=cs.length:=by rw [←h.eq,List.length_map]
theorem come_mem {ws:WL} {x:Nat} {p:Nat×Nat} (h:p∈comeL ws x):p∈ws∧p.1=x:=by
 obtain ⟨h1,h2⟩:=List.mem_filter.1 h
 exact ⟨h1,by simpa using h2⟩
theorem Told.at_ {w:World} {a:Option Addr} {n c:Nat} {x:Nat} {l:List MkM} {ws:WL} (h:Told w (.slice a n c) x l (comeL ws x)) {j:Nat} {p:Nat×Nat} (hp:(comeL ws x)[j]? = some p) :
 ∃ q ps,a=some ⟨q,0,none⟩∧w.cell? ⟨q,j*4,none⟩=some (.int .i64 (x:Nat))∧w.cell? ⟨q,j*4+1,none⟩=some (.int .i64 (p.2:Nat))∧w.cell? ⟨q,j*4+3,none⟩=some (.int .i64 (ps:Nat))∧1≤ps∧∃ ah,w.cell? ⟨q,j*4+2,none⟩=some (.int .i64 (ah:Nat)):=by
 rw [←h.eq,List.getElem?_map] at hp
 obtain ⟨m,hm,rfl⟩:=Option.map_eq_some_iff.1 hp
 have hx:m.due=x:=(come_mem (ws:=ws) (x:=x) (p:=mkP m) (by rw [←h.eq];exact List.mem_map_of_mem (List.mem_of_getElem? hm))).2
 obtain ⟨q,e,hq⟩:=h.row.at_ layM hm
 obtain ⟨k0,k1,k2,k3⟩:=menc_at m hq
 rw [hx] at k0
 exact ⟨q,m.ps,e,k0,k1,k3,h.ps m (List.mem_of_getElem? hm),m.ah,k2⟩
end Go.Proofs.YtajmeimjaapagaaGreatDoor
