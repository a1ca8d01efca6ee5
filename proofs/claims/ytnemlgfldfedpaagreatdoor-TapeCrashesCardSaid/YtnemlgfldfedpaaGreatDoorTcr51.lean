/- A part. -/
import Derived.Test.YtnemlgfldfedpaaGreatDoorTcr46
import Derived.Test.YtnemlgfldfedpaaGreatDoorTcr49
set_option linter.unusedVariables false
set_option linter.unusedSimpArgs false
namespace Go.Proofs.YtnemlgfldfedpaaGreatDoor
open Go.RowKit Go.Deep
def bsO (M:MsgM):List UInt8:=(putO M).getD []
def GoodM (M:MsgM):Prop:=putO M=some (bsO M)∧M.kind≠0
theorem goodM_of {M:MsgM} {bs:List UInt8} (hp:putO M=some bs) (hk:M.kind≠0):GoodM M∧bsO M=bs:=by
 have e:bsO M=bs:=by unfold bsO;rw [hp];rfl
 exact ⟨⟨by rw [e];exact hp,hk⟩,e⟩
def addI (L:ItL) (M:MsgM):ItL:=L ++ itemsA (roomT 0 (bytesI L)) M (bsO M)
def buildL (R:List MsgM):ItL:=R.foldl addI []
theorem build_snoc (R:List MsgM) (M:MsgM):buildL (R ++ [M])=addI (buildL R) M:=by
 unfold buildL
 rw [List.foldl_append]
 rfl
theorem recI_items {M:MsgM} {r:Nat} {bs:List UInt8} (hk:M.kind≠0):recI (itemsA r M bs)=[M]:=by
 have h1:recI [(M,bs)]=[M]:=by
  show (if M.kind == 0 then [] else [M]) ++ []=[M]
  rw [if_neg (by simpa using hk)];rfl
 unfold itemsA
 split
 ·rw [List.nil_append];exact h1
 ·rw [recI_app,h1]
  rfl
theorem qfill_len (b n:Nat) (hn:3≤n) (hn2:n≤327) (hb:b % 1024≤1021):(tfill (1024 - b % 1024) n).length=0∧(b+n) % 1024≤1021∧(1024 - b % 1024=n∨n+3≤1024 - b % 1024) ∨
 (tfill (1024 - b % 1024) n).length=1024 - b % 1024∧3≤1024 - b % 1024∧(b+(1024 - b % 1024)+n) % 1024≤1021∧¬ (1024 - b % 1024=n∨n+3≤1024 - b % 1024):=by
 by_cases hf:1024 - b % 1024=n∨n+3≤1024 - b % 1024
 ·left
  refine ⟨by unfold tfill;rw [if_pos hf];rfl,?_,hf⟩
  omega
 ·right
  refine ⟨?_,by omega,by omega,hf⟩
  unfold tfill
  rw [if_neg hf,if_pos (by omega),fillB_length _ (by omega)]
theorem roomT_zero (all:List UInt8):roomT 0 all=1024 - all.length % 1024:=by unfold roomT;omega
theorem add_facts {L:ItL} {M:MsgM} (hg:GoodM M) (hla:LaidAt 0 L) (hok:(bytesI L).length % 1024≤1021) :
 LaidAt 0 (addI L M)∧(bytesI (addI L M)).length % 1024≤1021∧(bytesI (addI L M)).length=(bytesI L).length+costR (bytesI L).length M ∧
  (notesI 0 (addI L M)).map (·.1)=(notesI 0 L).map (·.1) ++ [(((bytesI L).length+fillR (bytesI L).length M:Nat):Int)]∧recI (addI L M)=recI L ++ [M]∧costR (bytesI L).length M≤1351 ∧
  rightB M=true∧fillR (bytesI L).length M=(tfill (roomT 0 (bytesI L)) (bsO M).length).length:=by
 obtain ⟨hp,hk⟩:=hg
 obtain ⟨l3,l327⟩:=putO_len hk hp
 have hrt:rightB M=true:=(put_get hp []).2.2.2.2
 obtain ⟨i1,i2⟩:=itemsA_laid (i0:=0) hp l327 hok
 have hb:(bytesI (addI L M)).length=(bytesI L).length+((tfill (roomT 0 (bytesI L)) (bsO M).length).length+(bsO M).length):=by
  unfold addI
  rw [bytesI_app,itemsA_bytes,List.length_append,List.length_append]
 obtain ⟨c1,c2⟩:=fillR_eq hrt hk hok
 have hbs:((putO M).getD []).length=(bsO M).length:=rfl
 rw [hbs] at c1
 have hT:=qfill_len (bytesI L).length (bsO M).length l3 l327 hok
 rw [←roomT_zero] at hT
 have hr:=roomT_zero (bytesI L)
 have hcost:costR (bytesI L).length M=(tfill (roomT 0 (bytesI L)) (bsO M).length).length+(bsO M).length:=by
  unfold costR
  rw [if_pos ⟨hrt,hk⟩,hbs,←hr]
  rcases hT with ⟨a,_,b⟩|⟨a,_,_,b⟩
  ·rw [a,if_pos (by rcases b with x|x;exact .inl x.symm;exact .inr x)];omega
  ·rw [a,if_neg (fun y=>b (by rcases y with x|x;exact .inl x.symm;exact .inr x))]
 refine ⟨laidAt_app.2 ⟨hla,by rw [Nat.zero_add];exact i1⟩,?_,by rw [hb,hcost],?_,?_,?_,hrt,by omega⟩
 ·rw [hb]
  rcases hT with ⟨a,b,_⟩|⟨a,_,b,_⟩
  ·omega
  ·omega
 ·unfold addI
  rw [Nat.mul_zero,Nat.zero_add] at i2
  rw [notesI_app,List.map_append,Nat.zero_add,i2,if_neg (by simpa using hk)]
  show _ ++ [_]=_
  rw [show fillR (bytesI L).length M=(tfill (roomT 0 (bytesI L)) (bsO M).length).length by omega]
 ·unfold addI
  rw [recI_app,recI_items hk]
 ·rw [hcost]
  rcases hT with ⟨a,_⟩|⟨a,_⟩<;>omega
theorem build_facts:∀ (n:Nat) (R:List MsgM),R.length=n→(∀ M∈R,GoodM M)→LaidAt 0 (buildL R)∧(bytesI (buildL R)).length % 1024≤1021∧recI (buildL R)=R∧(bytesI (buildL R)).length≤1351*R.length
 | 0,R,hn,_=>by
  obtain rfl:=List.length_eq_zero_iff.1 hn
  exact ⟨trivial,by decide,rfl,by decide⟩
 | n+1,R,hn,hg=>by
  have hne:R≠[]:=fun e=>by rw [e] at hn;cases hn
  obtain ⟨R0,M,rfl⟩:∃ R0 M,R=R0 ++ [M]:=⟨R.dropLast,R.getLast hne,(List.dropLast_concat_getLast hne).symm⟩
  have h0:R0.length=n:=by rw [List.length_append] at hn;simp at hn;exact hn
  obtain ⟨a,b,c,d⟩:=build_facts n R0 h0 (fun x hx=>hg x (List.mem_append_left _ hx))
  obtain ⟨p,q,r,s,t,u,_,_⟩:=add_facts (hg M (List.mem_append_right _ (List.mem_singleton_self M))) a b
  rw [build_snoc]
  refine ⟨p,q,by rw [t,c],?_⟩
  rw [r,List.length_append]
  show _≤1351*(R0.length+1)
  omega
def BegI (R:List MsgM) (LA:ItL) (n:Nat):Prop:=
 n≤R.length∧recI LA=R.take n∧(LA=buildL (R.take n)∨∃ x,x.1.kind=0∧LA=buildL (R.take n) ++ [x]∧(bytesI LA).length % 1024=0∧x.2≠[])
theorem beg_of:∀ (n:Nat) (R:List MsgM),R.length=n→(∀ M∈R,GoodM M)→∀ LA LB,buildL R=LA ++ LB→∃ k,BegI R LA k
 | 0,R,hn,_,LA,LB,h=>by
  obtain rfl:=List.length_eq_zero_iff.1 hn
  have h:[]=LA ++ LB:=h
  obtain ⟨h1,h2⟩:=List.append_eq_nil_iff.1 h.symm
  subst h1
  exact ⟨0,Nat.le_refl _,rfl,.inl rfl⟩
 | n+1,R,hn,hg,LA,LB,h=>by
  have hne:R≠[]:=fun e=>by rw [e] at hn;cases hn
  obtain ⟨R0,M,rfl⟩:∃ R0 M,R=R0 ++ [M]:=⟨R.dropLast,R.getLast hne,(List.dropLast_concat_getLast hne).symm⟩
  have h0:R0.length=n:=by rw [List.length_append] at hn;simp at hn;exact hn
  have hgM:=hg M (List.mem_append_right _ (List.mem_singleton_self M))
  have hg0:∀ x∈R0,GoodM x:=fun x hx=>hg x (List.mem_append_left _ hx)
  obtain ⟨fa,fb,fc,fd⟩:=build_facts n R0 h0 hg0
  have hup:∀ k,BegI R0 LA k→BegI (R0 ++ [M]) LA k:=fun k ⟨x1,x2,x3⟩=>by
   have e:(R0 ++ [M]).take k=R0.take k:=List.take_append_of_le_length x1
   exact ⟨by rw [List.length_append];omega,by rw [e];exact x2,by rw [e];exact x3⟩
  rw [build_snoc] at h
  unfold addI at h
  rcases List.append_eq_append_iff.1 h with ⟨a',h1,h2⟩|⟨c',h1,h2⟩
  ·-- LA=buildL R0 ++ a'
   have hT0:(R0 ++ [M]).take R0.length=R0:=List.take_left
   have hT1:(R0 ++ [M]).take (R0.length+1)=R0 ++ [M]:=List.take_of_length_le (by rw [List.length_append];exact Nat.le_refl _)
   have hrM:=recI_items (r:=roomT 0 (bytesI (buildL R0))) (bs:=bsO M) hgM.2
   unfold itemsA at h2 hrM
   have hb0:∀ (h1:LA=buildL R0 ++ []),BegI (R0 ++ [M]) LA R0.length:=fun h1=>by
    rw [List.append_nil] at h1
    exact ⟨by rw [List.length_append];omega,by rw [h1,hT0];exact fc,.inl (by rw [hT0];exact h1)⟩
   have hb1:∀ (h1:LA=addI (buildL R0) M),BegI (R0 ++ [M]) LA (R0.length+1):=fun h1=>by
    refine ⟨by rw [List.length_append];exact Nat.le_refl _,?_,.inl ?_⟩
    ·rw [h1,hT1]
     obtain ⟨_,_,_,_,t,_⟩:=add_facts hgM fa fb
     rw [t,fc]
    ·rw [h1,hT1,build_snoc]
   by_cases ht:tfill (roomT 0 (bytesI (buildL R0))) (bsO M).length=[]
   ·rw [if_pos ht,List.nil_append] at h2
    cases a' with
    | nil=>exact ⟨_,hb0 h1⟩
    | cons x a2=>
     injection h2 with e1 e2
     have e3:=List.append_eq_nil_iff.1 e2.symm
     obtain ⟨rfl,_⟩:=e3
     refine ⟨_,hb1 ?_⟩
     rw [h1,←e1]
     unfold addI itemsA
     rw [if_pos ht,List.nil_append]
   ·rw [if_neg ht] at h2
    cases a' with
    | nil=>exact ⟨_,hb0 h1⟩
    | cons x a2=>
     injection h2 with e1 e2
     cases a2 with
     | nil=>
      refine ⟨R0.length,by rw [List.length_append];omega,?_,.inr ⟨x,by rw [←e1];rfl,by rw [hT0];exact h1,?_,by rw [←e1];exact ht⟩⟩
      ·rw [h1,hT0,recI_app,fc,←e1]
       show R0 ++ []=R0
       rw [List.append_nil]
      ·obtain ⟨l3,l327⟩:=putO_len hgM.2 hgM.1
       have hl:=qfill_len (bytesI (buildL R0)).length (bsO M).length l3 l327 fb
       rw [←roomT_zero] at hl
       have hne2:(tfill (roomT 0 (bytesI (buildL R0))) (bsO M).length).length≠0:=fun e=>ht (List.length_eq_zero_iff.1 e)
       rw [h1,bytesI_app,List.length_append,←e1]
       have hbx:(bytesI [(fillM (roomT 0 (bytesI (buildL R0))),tfill (roomT 0 (bytesI (buildL R0))) (bsO M).length)]).length=(tfill (roomT 0 (bytesI (buildL R0))) (bsO M).length).length:=by simp [bytesI]
       rw [hbx]
       have hr:=roomT_zero (bytesI (buildL R0))
       rcases hl with ⟨x,_⟩|⟨x,_⟩
       ·exact absurd x hne2
       ·omega
     | cons y a3=>
      have e2':[(M,bsO M)]=y :: (a3 ++ LB):=e2
      injection e2' with e3 e4
      have e5:=List.append_eq_nil_iff.1 e4.symm
      obtain ⟨rfl,_⟩:=e5
      refine ⟨_,hb1 ?_⟩
      rw [h1,←e1,←e3]
      unfold addI itemsA
      rw [if_neg ht]
      rfl
  ·-- buildL R0=LA ++ c'
   obtain ⟨k,hk⟩:=beg_of n R0 h0 hg0 LA c' h1
   exact ⟨k,hup k hk⟩
abbrev SegL:=List (ItL×ItL)
def LenS (ls:SegL):Prop:=∀ i x,ls[i]? = some x→(bytesI (x.1 ++ x.2)).length≤1024∧(i+1≠ls.length→(bytesI (x.1 ++ x.2)).length=1024)
def NamS (st:St) (ls:SegL):Prop:=∀ nm,(nm∈st.fs.map (·.1)∧Lib.hasPrefix nm.data.toList tH.data.toList=true)↔∃ i,i<ls.length∧nm=nameB tH (1024*i)
theorem row_lens {n:Nat} {m:RowM} {st:St} {j:Nat} {ls:SegL} (h:PcS m st ls) (hk:RowU n m st 1024 0 j (bytesI (itemsS ls))) :
 j=ls.length∧LenS ls∧(m.end_=m.next→∀ x∈ls,(bytesI (x.1 ++ x.2)).length=1024)∧NamS st ls∧∀ p∈st.fs,p.1.size≤1048576:=by
 have hn:=hk.c.row.next
 have he:=hk.c.row.end_
 have e1:=hk.c.row.e1
 have hjl:j=ls.length:=by have:=h.next;omega
 subst hjl
 have htt:=hk.c.tight
 have hone:∀ i x,ls[i]? = some x→(bytesI (x.1 ++ x.2)).length=min 1024 ((bytesI (itemsS ls)).length - 1024*i):=fun i x hx=>by
  have hil:=(List.getElem?_eq_some_iff.1 hx).1
  obtain ⟨f,a,b⟩:=hk.c.ch i (Nat.zero_le _) hil
  obtain ⟨f2,a2,b2⟩:=h.fs i x hx
  rw [h.head] at a
  have a:st.find (nameB tH (1024*i))=some f:=a
  rw [a2] at a
  have hf:=Option.some.inj a
  subst hf
  rw [←b2.byt,b,List.length_take,List.length_drop]
  congr 1
 refine ⟨rfl,fun i x hx=>?_,fun hx x hm=>?_,fun nm=>?_,hk.c.nm⟩
 ·have h1:=hone i x hx
  have hil:=(List.getElem?_eq_some_iff.1 hx).1
  refine ⟨by omega,fun hne=>?_⟩
  have:=htt (by omega)
  omega
 ·obtain ⟨i,hi⟩:=List.mem_iff_getElem?.1 hm
  have h1:=hone i x hi
  have hil:=(List.getElem?_eq_some_iff.1 hi).1
  omega
 ·have:=hk.c.row.own nm
  rw [h.head] at this
  have this:(nm∈st.fs.map (·.1)∧Lib.hasPrefix nm.data.toList tH.data.toList=true)↔∃ p∈plS (1024*ls.length) 1024 (1024*0),nm=nameB tH p:=this
  rw [this]
  constructor
  ·rintro ⟨p,hp,rfl⟩
   obtain ⟨r,r1,r2,rfl⟩:=(plS_iff (by decide) 0 ls.length p (by omega)).1 hp
   exact ⟨r,r2,rfl⟩
  ·rintro ⟨i,hi,rfl⟩
   exact ⟨_,(plS_iff (by decide) 0 ls.length _ (by omega)).2 ⟨i,Nat.zero_le _,hi,rfl⟩,rfl⟩
theorem nameB_short {p:Nat} (hp:p≤99999999):(nameB tH p).size≤1048576:=by
 have:=nameB_size tH p
 have h2:tH.size≤100:=by decide
 omega
theorem PcS.down2 {n:Nat} {m:RowM} {st st':St} {j:Nat} {ls:SegL} (h:PcS m st ls) (hk:RowU n m st 1024 0 j (bytesI (itemsS ls))) (hd:DownS m st st') (hr:1024*(ls.length+1)≤99000000) :
 ∃ m'' ls',PcS m'' st' ls'∧itemsS ls'=itemsS ls∧(∀ LS,SyncL ls LS→SyncL ls' LS)∧LenS ls'∧NamS st' ls'∧(∀ p∈st'.fs,p.1.size≤1048576)∧Good (n+1) st':=by
 obtain ⟨_,hlen,hfull,hnam,hnm⟩:=row_lens h hk
 have hgood:=hk.up.good
 rcases hd.fs with e|⟨he,e⟩
 ·refine ⟨m,ls,h.same e hd.turn,rfl,fun _ x=>x,hlen,fun nm=>by rw [e];exact hnam nm,fun p hp=>hnm p (by rw [←e];exact hp),?_⟩
  exact ⟨hd.fuse,by rw [hd.cap];exact hgood.cap,by rw [hd.size,hd.cap];exact hgood.size,by rw [hd.size,e];exact hgood.sum,by rw [e];exact hgood.names,by rw [hd.turn];have:=hgood.turn;omega,by rw [e];have:=hgood.len;omega,fun p hp=>(hgood.files p (by rw [←e];exact hp)).more (by omega)⟩
 ·have hfr:=hk.rowUp.fresh he
  have hn:m.next.toNat=1024*ls.length:=by rw [h.next];rfl
  rw [hn,h.head] at hfr e
  have hnn:nameB tH (1024*ls.length)∉st.fs.map (·.1):=find_none (by
   have:(st.fs.find? fun p=>decide (p.1=nameB tH (1024*ls.length))).map (·.2)=none:=hfr
   rw [this];simp)
  refine ⟨{ m with next:=m.next+m.size },ls ++ [([],[])],⟨h.head,h.size,?_,by rw [List.length_append];exact hr,fun i x hx=>?_⟩,by rw [itemsS_snoc];simp,fun LS hl=>SyncL.new hl _,fun i x hx=>?_,fun nm=>?_,fun p hp=>?_,?_⟩
  ·show m.next+m.size=_
   rw [h.next,h.size,List.length_append]
   show _=((1024*(ls.length+1):Nat):Int)
   omega
  ·rw [hd.turn]
   by_cases hi:i<ls.length
   ·rw [List.getElem?_append_left hi] at hx
    obtain ⟨f,a,b⟩:=h.fs i x hx
    refine ⟨f,?_,b⟩
    unfold St.find at a ⊢
    rw [e,List.find?_append]
    cases hfd:st.fs.find? (fun p=>decide (p.1=nameB tH (1024*i))) with
    | none=>rw [hfd] at a;cases a
    | some p=>rw [hfd] at a;exact a
   ·have hi2:i=ls.length:=by
     have:=(List.getElem?_eq_some_iff.1 hx).1
     rw [List.length_append] at this
     have:i<ls.length+1:=this
     omega
    subst hi2
    rw [List.getElem?_append_right (Nat.le_refl _),Nat.sub_self] at hx
    have hx:(([],[]):ItL×ItL)=x:=Option.some.inj hx
    subst hx
    refine ⟨emptyF,?_,PcF.empty _⟩
    unfold St.find
    rw [e]
    exact find_snoc_new hfr
  ·by_cases hi:i<ls.length
   ·rw [List.getElem?_append_left hi] at hx
    have:=hfull he x (List.mem_of_getElem? hx)
    exact ⟨by omega,fun _=>this⟩
   ·have hi2:=(List.getElem?_eq_some_iff.1 hx).1
    rw [List.length_append] at hi2
    have hi2:i<ls.length+1:=hi2
    rw [List.getElem?_append_right (by omega),show i - ls.length=0 by omega] at hx
    have hx:(([],[]):ItL×ItL)=x:=Option.some.inj hx
    subst hx
    refine ⟨Nat.zero_le _,fun hne=>absurd ?_ hne⟩
    rw [List.length_append]
    show i+1=ls.length+1
    omega
  ·have hlen1:(ls ++ [(([],[]):ItL×ItL)]).length=ls.length+1:=by rw [List.length_append];rfl
   rw [e,hlen1,List.map_append]
   constructor
   ·rintro ⟨hx,hp⟩
    rcases List.mem_append.1 hx with hx|hx
    ·obtain ⟨i,hi,hn2⟩:=(hnam nm).1 ⟨hx,hp⟩
     exact ⟨i,by omega,hn2⟩
    ·have:nm=nameB tH (1024*ls.length):=by simpa using hx
     exact ⟨ls.length,by omega,this⟩
   ·rintro ⟨i,hi,rfl⟩
    refine ⟨?_,nameB_pre _ _⟩
    by_cases hi2:i<ls.length
    ·exact List.mem_append_left _ ((hnam _).2 ⟨i,hi2,rfl⟩).1
    ·rw [show i=ls.length by omega]
     exact List.mem_append_right _ (by simp)
  ·rw [e] at hp
   rcases List.mem_append.1 hp with hp|hp
   ·exact hnm p hp
   ·rw [List.mem_singleton.1 hp]
    exact nameB_short (by omega)
  ·refine ⟨hd.fuse,by rw [hd.cap];exact hgood.cap,by rw [hd.size,hd.cap];exact hgood.size,?_,?_,by rw [hd.turn];have:=hgood.turn;omega,?_,fun p hp=>?_⟩
   ·rw [hd.size,e]
    have:=hgood.sum
    unfold sumB at this ⊢
    rw [List.map_append,List.sum_append,this]
    rfl
   ·rw [e,List.map_append]
    exact List.nodup_append.2 ⟨hgood.names,by simp,fun a ha b hb=>by
     have hb:b=nameB tH (1024*ls.length):=by simpa using hb
     intro hx
     exact hnn (by rw [←hb,←hx];exact ha)⟩
   ·rw [e,List.length_append]
    have:=hgood.len
    show _+1≤_
    omega
   ·rw [e] at hp
    rcases List.mem_append.1 hp with hp|hp
    ·exact (hgood.files p hp).more (by omega)
    ·rw [List.mem_singleton.1 hp];exact goodF_empty _
theorem PcS.fell2 {n:Nat} {m:RowM} {st st':St} {j:Nat} {ls:SegL} {F:ByteArray} {r:Nat} (h:PcS m st ls) (hk:RowU n m st 1024 0 j (bytesI (itemsS ls))) (hw:FellS m st F st')
 (hla:F.size≠0→LaidAt 0 (itemsS ls ++ [(fillM r,F.data.toList)])) (hr:F.size≠0→F.size=roomT 0 (bytesI (itemsS ls))) (hcap:F.size≤st.cap - st.size) (hroom:1024*(ls.length+2)≤99000000) :
 ∃ m'' ls',PcS m'' st' ls'∧(itemsS ls'=itemsS ls∨F.size≠0∧itemsS ls'=itemsS ls ++ [(fillM r,F.data.toList)])∧(∀ LS,SyncL ls LS→SyncL ls' LS)∧LenS ls'∧NamS st' ls'∧(∀ p∈st'.fs,p.1.size≤1048576)∧Good (n+3) st'∧st'.cap=st.cap∧st'.size≤st.size+F.size:=by
 obtain ⟨hj,_⟩:=row_lens h hk
 subst hj
 rcases hw with hd|⟨f0,hb,hd⟩
 ·obtain ⟨m'',ls',a,b,c,d,e,f,g⟩:=h.down2 hk hd (by omega)
  exact ⟨m'',ls',a,.inl b,c,d,e,f,g.more (by omega),hd.cap,by rw [hd.size];omega⟩
 ·have hr':=hk.c.roomOk
  obtain ⟨l1,k1,k2,k3⟩:=h.app hk hb (x:=(fillM r,F.data.toList)) rfl f0 hcap (by omega) (hla f0)
  obtain ⟨q1,q2,q3⟩:=hk.app F f0 (by rw [hr'.hr,hr f0];omega) hcap (by omega) hb.1 hb.2
  have hl1:1024*(l1.length+1)≤99000000:=by
   have e:=k1.next
   have e2:=q1.c.row.next
   have hif:(if 1024*0+(bytesI (itemsS ls)).length=1024*ls.length then ls.length+1 else ls.length)≤ls.length+1:=by split<;>omega
   omega
  have e9:bytesI (itemsS l1)=bytesI (itemsS ls) ++ F.data.toList:=by
   rw [k2,bytesI_app];simp [bytesI]
  rw [←e9] at q1
  obtain ⟨m'',l2,a,b,c,d,e,f,g⟩:=k1.down2 q1 hd hl1
  exact ⟨m'',l2,a,.inr ⟨f0,b.trans k2⟩,fun LS x=>c LS (k3 LS x),d,e,f,g.more (by omega),hd.cap.trans q3,by rw [hd.size,q2];exact Nat.le_refl _⟩
theorem qlaid_cost {i0:Nat} {all:List UInt8} (hok:all.length % 1024≤1021) (M:MsgM):∃ F S E,laidF (roomT i0 all) M=(F,S,E)∧F.size+S.size=costR (1024*i0+all.length) M:=by
 have hr:roomT i0 all=1024 - all.length % 1024:=by unfold roomT;omega
 have hr2:roomT i0 all=1024 - (1024*i0+all.length) % 1024:=by unfold roomT;rfl
 by_cases hkd:M.kind=0
 ·exact ⟨_,_,_,by unfold laidF;rw [if_pos hkd],by unfold costR;rw [if_neg (fun x=>x.2 hkd)];rfl⟩
 cases hp:putO M with
 | none=>
  refine ⟨_,_,_,by unfold laidF;rw [if_neg hkd,hp],?_⟩
  unfold costR
  rw [if_neg]
  ·rfl
  ·rintro ⟨hx,-⟩
   unfold putO at hp
   rw [if_pos hx,if_pos hkd] at hp
   cases hp
 | some bs=>
  have hrt:rightB M=true:=(put_get hp []).2.2.2.2
  obtain ⟨l3,l327⟩:=putO_len hkd hp
  refine ⟨_,_,_,by unfold laidF;rw [if_neg hkd,hp],?_⟩
  rw [sizeL,sizeL]
  unfold costR
  rw [if_pos ⟨hrt,hkd⟩,hp,←hr2]
  simp only [Option.getD_some]
  unfold tfill
  by_cases hf:roomT i0 all=bs.length∨bs.length+3≤roomT i0 all
  ·rw [if_pos hf,if_pos (show bs.length=roomT i0 all∨bs.length+3≤roomT i0 all by rcases hf with x|x;exact .inl x.symm;exact .inr x)]
   simp
  ·rw [if_neg hf,if_pos (show 3≤roomT i0 all by omega),fillB_length _ (by omega),if_neg (show ¬ (bs.length=roomT i0 all∨bs.length+3≤roomT i0 all) from fun y=>hf (by rcases y with x|x;exact .inl x.symm;exact .inr x))]
theorem find_sync_at {nm:ByteArray} {f:FileM}:∀ (ts:List ByteArray) (st:St),st.find nm=some (syncF f)→(syncAll st ts).find nm=some (syncF f)
 | [],_,h=>h
 | t :: ts,st,h=>by
  refine find_sync_at ts (sync1 st t) ?_
  by_cases ht:nm=t
  ·subst ht
   have e:sync1 st nm = { st with fs:=setF st.fs nm (syncF (syncF f))}:=by unfold sync1;rw [h]
   rw [e]
   exact find_set_same h
  ·rw [find_sync1 ht];exact h
theorem find_sync_in {nm:ByteArray} {f:FileM}:∀ (ts:List ByteArray) (st:St),nm∈ts→st.find nm=some f→(syncAll st ts).find nm=some (syncF f)
 | [],_,h,_=>by cases h
 | t :: ts,st,h,hf=>by
  by_cases ht:nm=t
  ·subst ht
   have e:sync1 st nm = { st with fs:=setF st.fs nm (syncF f)}:=by unfold sync1;rw [hf]
   refine find_sync_at ts (sync1 st nm) ?_
   rw [e]
   exact find_set_same hf
  ·rcases List.mem_cons.1 h with h|h
   ·exact absurd h ht
   ·refine find_sync_in ts (sync1 st t) h ?_
    rw [find_sync1 ht];exact hf
theorem sync_turn:∀ (st:St) (ts:List ByteArray),(syncAll st ts).turn=st.turn
 | _,[]=>rfl
 | st,t :: ts=>by
  show (syncAll (sync1 st t) ts).turn=_
  rw [sync_turn]
  unfold sync1
  split<;>rfl
theorem RowI.ofs {n:Nat} {m:RowM} {st st':St} {z i0 j e:Nat} (h:RowI n m st z i0 j e) (hf:st'.fs=st.fs) (hc:Calm n st'):RowI n m st' z i0 j e:=
 { h with
  calm:=hc
  own:=fun nm=>by rw [hf];exact h.own nm
  len:=fun i a b=>by
   have:=h.len i a b
   unfold St.len St.find at this ⊢
   rw [hf];exact this }
theorem RowC.ofs {n:Nat} {m:RowM} {st st':St} {z i0 j:Nat} {all:List UInt8} (h:RowC n m st z i0 j all) (hf:st'.fs=st.fs) (hc:Calm n st'):RowC n m st' z i0 j all:=
 ⟨h.row.ofs hf hc,fun i a b=>by
  obtain ⟨f,x,y⟩:=h.ch i a b
  exact ⟨f,(find_fs_t hf _).trans x,y⟩,h.tight,fun p hp=>h.nm p (by rw [←hf];exact hp)⟩
theorem calm_good {n:Nat} {st:St} (h:Good n st):Good n (calmS st):=⟨⟨fun hx=>(by cases hx),by show (0:Int)≤_;decide⟩,h.cap,h.size,h.sum,h.names,h.turn,h.len,h.files⟩
theorem rowU_calm {n:Nat} {m:RowM} {st:St} {z i0 j:Nat} {all:List UInt8} (h:RowC n m st z i0 j all):RowU n m st z i0 j all:=
 ⟨h.ofs rfl ⟨calm_good h.row.calm.good,rfl,h.row.calm.down⟩,h.row.calm.up⟩
theorem rowC_calm {n:Nat} {m:RowM} {st:St} {z i0 j:Nat} {all:List UInt8} (h:RowU n m st z i0 j all) (hl:st.lit=false):RowC n m st z i0 j all:=
 h.c.ofs rfl ⟨h.up.good,hl,h.up.down⟩
theorem lit_burn {st:St} (h:st.lit=false):burnS st=st:=by unfold burnS;rw [if_neg (by rw [h];simp)]
theorem lit_create {st:St} (h:st.lit=false) (nm:ByteArray):(createS st nm).lit=false:=by
 unfold createS
 rw [lit_burn h]
 (repeat' split)<;>exact h
theorem lit_write {st:St} (h:st.lit=false) (nm:ByteArray) (a:Int) (s:ByteArray):(writeS st nm a s).lit=false:=by
 unfold writeS
 rw [lit_burn h]
 (repeat' split)<;>exact h
theorem lit_app {m:RowM} {st:St} (h:st.lit=false) (s:ByteArray):(appS m st s).lit=false:=by
 unfold appS
 refine lit_write ?_ _ _ _
 unfold ps
 split
 ·exact lit_create h _
 ·exact h
theorem touched_app {n:Nat} {m:RowM} {st:St} {j:Nat} {all:List UInt8} (h:RowU n m st 1024 0 j all) (ht:m.touched=0) (k:Nat):(appM m k).touched=0:=by
 have hn:=h.c.row.next
 have he:=h.c.row.end_
 have e1:=h.c.row.e1
 have e2:=h.c.row.e2
 have hz:=h.c.row.size
 show min m.touched (lastOf m)=0
 have:0≤lastOf m:=by
  unfold lastOf pm
  split
  ·show 0≤m.next+m.size - m.size
   omega
  ·omega
 omega
structure TpJ (ph:Bool) (w0 w:World) (d k tb:Nat) (t:TapeM) (g:Gh) (st:St) (m:RowM) (j:Nat) (ls:SegL) (LS:ItL) (R:List MsgM):Prop where
 tg:TapeG w0 w tb t g st m
 ru:RowU (4*k) m st 1024 0 j (bytesI (itemsS ls))
 pc:PcS m st ls
 sy:SyncL ls LS
 ph0:ph=false→st.lit=false∧m.touched=0
 tn:TapeN t (notesI 0 (itemsS ls))
 it:itemsS ls=buildL R
 gd:∀ M∈R,GoodM M
 rl:R.length≤k
 siz:st.size≤1400*k
 cap:st.cap=1048576
 dd:g.d=d
structure RefJ (w0 w:World) (rb:Nat) (R:List MsgM) (B:ByteArray) (vI:Value) (ids:List Int) (vL:Value) (Ms:ML):Prop where
 rf:RefT w rb B 0 vI ids vL Ms
 bs:B.size=(bytesI (buildL R)).length
 id:ids=(notesI 0 (buildL R)).map (·.1)
 ms:Ms.map (·.1)=R
 strs:∀ p∈Ms,Strs w0 0 p.2 p.1.keys
 snd:∀ p∈Ms,Sound p.1
 gd:∀ M∈R,GoodM M
 low:∀ q,RefS rb vI vL q→w0.heap.size≤q
theorem RefJ.new {w0 w w':World} {S:Nat→Prop} {rb:Nat} {R:List MsgM} {B:ByteArray} {vI:Value} {ids:List Int} {vL:Value} {Ms:ML} (h:RefJ w0 w rb R B vI ids vL Ms) (hc:Chg S w w') (hS:∀ q,RefS rb vI vL q→¬ S q):RefJ w0 w' rb R B vI ids vL Ms:={ h with rf:=h.rf.chg hc hS }
def Kp (tb:Nat) (t:TapeM) (g:Gh) (w:World) (t':TapeM) (g':Gh) (w':World):Prop:=w.heap.size≤w'.heap.size∧∀ q,q<w.heap.size→Off tb t g q→w'.heap[q]? = w.heap[q]?∧Off tb t' g' q
def KpD (tb:Nat) (t:TapeM) (g:Gh) (w:World) (g':Gh) (w':World):Prop:=w.heap.size≤w'.heap.size∧∀ q,q<w.heap.size→Off tb t g q→w'.heap[q]? = w.heap[q]?∧q∉g'.fp
theorem kp_of {tb:Nat} {t t':TapeM} {g g':Gh} {w w':World} (hc:Chg (fun q=>q∈t.foot tb∨q=t.rb∨q∈g.fp) w w') (h1:∀ q∈t'.foot tb,q∈t.foot tb∨w.heap.size≤q) (h2:t'.rb=t.rb) (h3:∀ q∈g'.fp,q∈g.fp∨w.heap.size≤q):Kp tb t g w t' g' w':=by
 refine ⟨hc.size,fun q hq ho=>⟨hc.block q hq (fun x=>?_),fun x=>?_,fun x=>?_,fun x=>?_⟩⟩
 ·rcases x with x|x|x
  ·exact ho.1 x
  ·exact ho.2.1 x
  ·exact ho.2.2 x
 ·rcases h1 q x with y|y
  ·exact ho.1 y
  ·omega
 ·exact ho.2.1 (x.trans h2)
 ·rcases h3 q x with y|y
  ·exact ho.2.2 y
  ·omega
theorem TpJ.ok {ph:Bool} {w0 w:World} {d k tb:Nat} {t:TapeM} {g:Gh} {st:St} {m:RowM} {j:Nat} {ls:SegL} {LS:ItL} {R:List MsgM} (h:TpJ ph w0 w d k tb t g st m j ls LS R) :
 LaidAt 0 (itemsS ls)∧(bytesI (itemsS ls)).length % 1024≤1021∧recI (itemsS ls)=R∧(bytesI (itemsS ls)).length≤1351*R.length:=by
 rw [h.it]
 exact build_facts _ R rfl h.gd
theorem TpJ.more {ph:Bool} {w0 w:World} {d k tb:Nat} {t:TapeM} {g:Gh} {st:St} {m:RowM} {j:Nat} {ls:SegL} {LS:ItL} {R:List MsgM} (h:TpJ ph w0 w d k tb t g st m j ls LS R):TpJ ph w0 w d (k+1) tb t g st m j ls LS R:=
 { h with ru:=h.ru.more (by omega),rl:=by have:=h.rl;omega,siz:=by have:=h.siz;omega }
theorem TpJ.apart {ph:Bool} {w0 w w':World} {S:Nat→Prop} {d k tb:Nat} {t:TapeM} {g:Gh} {st:St} {m:RowM} {j:Nat} {ls:SegL} {LS:ItL} {R:List MsgM} (h:TpJ ph w0 w d k tb t g st m j ls LS R) (hc:Chg S w w') (hS:∀ q,S q→Off tb t g q∧w0.heap.size≤q):TpJ ph w0 w' d k tb t g st m j ls LS R:=
 { h with tg:=h.tg.off hc (fun q hq=>⟨(hS q hq).1.1,(hS q hq).1.2.1,(hS q hq).1.2.2,(hS q hq).2⟩)}
theorem TpJ.new {ph:Bool} {w0 w w':World} {d k tb:Nat} {t:TapeM} {g:Gh} {st:St} {m:RowM} {j:Nat} {ls:SegL} {LS:ItL} {R:List MsgM} (h:TpJ ph w0 w d k tb t g st m j ls LS R) (hc:Chg (fun _=>False) w w'):TpJ ph w0 w' d k tb t g st m j ls LS R:={ h with tg:=h.tg.new hc }
theorem TpJ.sync {w0 w:World} {d k tb:Nat} {t:TapeM} {g:Gh} {st:St} {m:RowM} {j:Nat} {ls:SegL} {LS:ItL} {R:List MsgM} (h:TpJ false w0 w d k tb t g st m j ls LS R) (hk:k≤100) :
 Calls Tryz.prog 8 #[.pointer (some ⟨tb,0,none⟩)] w fun e w'=>e = .returned (.int .i64 0)∧∃ g' st' m' ls',Kp tb t g w t g' w'∧TpJ true w0 w' d k tb t g' st' m' j ls' (buildL R) R:=by
 obtain ⟨hl,ht⟩:=h.ph0 rfl
 have hrc:=rowC_calm h.ru hl
 refine (tsync_w h.tg hrc (by omega)).mono ?_
 rintro e w' ⟨rfl,g',m',st',r1,r2,r3,r4,r5,r6,r7,r8,r9,_,⟨e1,e2⟩,_⟩
 obtain ⟨hj,_,_,_,_⟩:=row_lens h.pc h.ru
 have hnx:=h.pc.next
 have hrm:=h.pc.room
 have hps:=h.pc.synced (m':=m') (st':=st') (by rw [e1];rfl) (by rw [e1];rfl) (by rw [e1];rfl) (by rw [e2];exact sync_turn _ _) (fun i x f hx hf=>by
  left
  rw [e2]
  refine find_sync_in _ _ ?_ hf
  have hil:=(List.getElem?_eq_some_iff.1 hx).1
  unfold rowNames
  refine List.mem_map.2 ⟨1024*i,?_,by rw [h.pc.head]⟩
  rw [show m.next.toNat=1024*ls.length by omega,show m.size.toNat=1024 by rw [h.pc.size];rfl,ht]
  exact (plS_iff (by decide) 0 ls.length _ (by omega)).2 ⟨i,Nat.zero_le _,hil,rfl⟩)
 obtain ⟨p1,p2,p3⟩:=hps
 rw [h.it] at p3
 refine ⟨rfl,g',st',m',_,kp_of (r7.wide (fun _ _ x=>.inr x)) (fun q hq=>.inl hq) rfl (fun q hq=>?_),⟨r1,?_,p1,p3,fun hx=>(by cases hx),by rw [p2];exact h.tn,by rw [p2];exact h.it,h.gd,h.rl,?_,by rw [r6];exact h.cap,r2.trans h.dd⟩⟩
 ·rcases r8 q hq with (x|x)|x
  ·exact absurd (x▸hq) r1.row.out
  ·exact .inl x
  ·exact .inr x
 ·rw [p2]
  exact rowU_calm r5
 ·rw [e2,(syncAll_keeps _ _).2.2.2]
  exact h.siz
structure DkJ (w0 w:World) (d k:Nat) (g:Gh) (st:St) (ls:SegL) (LS:ItL) (R:List MsgM):Prop where
 disk:DiskAt w g st
 chg:Chg (fun _=>False) w0 w
 low:∀ q∈g.fp,w0.heap.size≤q
 tab0:Tab10 w0
 good:Good (4*k) st
 pc:∃ m,PcS m st ls
 sy:SyncL ls LS
 len:LenS ls
 nam:NamS st ls
 nm:∀ p∈st.fs,p.1.size≤1048576
 pre:∃ r,buildL R=itemsS ls ++ r
 gd:∀ M∈R,GoodM M
 rl:R.length≤k
 cap:st.cap=1048576
 siz:st.size≤1400*k
 dd:g.d=d
theorem TpJ.dk {ph:Bool} {w0 w:World} {d k tb:Nat} {t:TapeM} {g:Gh} {st:St} {m:RowM} {j:Nat} {ls:SegL} {LS:ItL} {R:List MsgM} (h:TpJ ph w0 w d k tb t g st m j ls LS R):DkJ w0 w d k g st ls LS R:=by
 obtain ⟨_,a,_,b,c⟩:=row_lens h.pc h.ru
 exact ⟨h.tg.row.disk,h.tg.row.chg,h.tg.row.low,h.tg.row.tab0,h.ru.up.good,⟨m,h.pc⟩,h.sy,a,b,c,⟨[],by rw [h.it,List.append_nil]⟩,h.gd,h.rl,h.cap,h.siz,h.dd⟩
theorem TpJ.fuse {ph:Bool} {w0 w:World} {d k tb:Nat} {t:TapeM} {g:Gh} {st:St} {m:RowM} {j:Nat} {ls:SegL} {LS:ItL} {R:List MsgM} (h:TpJ ph w0 w d k tb t g st m j ls LS R) (x:Int) (hx:x≤9223372036854775807) :
 Calls Tryz.prog 9 #[.pointer (some ⟨d,0,none⟩),.int .i64 x] w fun e w'=>e = .returned (.tuple #[])∧Kp tb t g w t g w'∧∃ st',TpJ true w0 w' d k tb t g st' m j ls LS R:=by
 have hF:=fuse_any g st x w h.tg.row.disk
 rw [h.dd] at hF
 refine hF.mono ?_
 rintro e w' ⟨rfl,hd,ht⟩
 have hkp:Kp tb t g w t g w':=kp_of (ht.chg.wide (fun _ _ y=>.inr (.inr y))) (fun q hq=>.inl hq) rfl (fun q hq=>.inl hq)
 have hrb:w'.heap[t.rb]? = w.heap[t.rb]?:=ht.chg.block _ h.tg.row.row.lt h.tg.row.out
 refine ⟨rfl,hkp,fuseS st x,{ h with
  tg:=⟨⟨hd,h.tg.row.row.chg ht.chg h.tg.row.out,h.tg.row.out,h.tg.row.chg.trans ht.chg (fun i hi y=>by have:=h.tg.row.low i y;omega),h.tg.row.low,h.tg.row.lowb,h.tg.row.tab0⟩,h.tg.tape.chg ht.chg (fun q hq y=>(h.tg.out q hq).2 y),h.tg.out⟩
  ru:=⟨h.ru.c,h.ru.up.good.fuseS x hx,h.ru.up.down⟩
  pc:=h.pc.fuse x
  ph0:=fun y=>(by cases y)}⟩
theorem TpJ.append {ph:Bool} {w0 w:World} {d k tb:Nat} {t:TapeM} {g:Gh} {st:St} {m:RowM} {j:Nat} {ls:SegL} {LS:ItL} {R:List MsgM} (h:TpJ ph w0 w d k tb t g st m j ls LS R) (hk:k≤100) {M:MsgM} {vk:Value} (hks:Strs w 0 vk M.keys) (hcap:CapOk vk) (hs:Sound M) (hc:costR (bytesI (buildL R)).length M≠0) :
 GoodM M∧Calls Tryz.prog 11 #[.pointer (some ⟨tb,0,none⟩),M.val vk] w fun e w'=>
  (e = .returned (.tuple #[.int .i64 (((bytesI (buildL R)).length+fillR (bytesI (buildL R)).length M:Nat):Int),.int .i64 0])∧∃ t' g' st' m' j' ls',Kp tb t g w t' g' w'∧TpJ ph w0 w' d (k+1) tb t' g' st' m' j' ls' LS (R ++ [M])) ∨
  (e = .returned (.tuple #[.int .i64 0,.int .i64 8])∧∃ g' st' ls',KpD tb t g w g' w'∧DkJ w0 w' d (k+1) g' st' ls' LS (R ++ [M])):=by
 obtain ⟨hla,hok,hrec,hlen⟩:=h.ok
 have hrl:=h.rl
 have hsz:=h.siz
 have hcp:=h.cap
 have hbb:bytesI (itemsS ls)=bytesI (buildL R):=by rw [h.it]
 have hti:t.ids.length≤k:=by
  rw [h.tn.ids,List.length_map,←recI_len,hrec];exact hrl
 have htm:t.M.length≤k:=by
  have:=h.tn.ml
  rw [←recI_len,hrec] at this
  omega
 obtain ⟨F,S,E,hF,hA⟩:=app_gen_u h.tg h.ru h.pc.head M vk hks hcap hs hok (by omega) (by omega) (by omega) (by omega) (by omega)
 obtain ⟨F2,S2,E2,hF2,hcost⟩:=qlaid_cost (i0:=0) hok M
 rw [hF] at hF2
 injection hF2 with x1 x2
 injection x2 with x2 x3
 subst x1 x2 x3
 rw [Nat.mul_zero,Nat.zero_add,hbb] at hcost
 rcases hA with ⟨_,f0,s0,_⟩|⟨_,s3,s327,f1024,hfit,hok2,hrm,⟨bs,hp,hS,hkd,hFb⟩,hA⟩
 ·exact absurd (by omega) hc
 ·obtain ⟨hgM,hbs⟩:=goodM_of hp hkd
  refine ⟨hgM,hA.mono ?_⟩
  have hbr:(bytesI (buildL R)).length % 1024≤1021:=by rw [←hbb];exact hok
  have hlb:LaidAt 0 (buildL R):=by rw [←h.it];exact hla
  obtain ⟨a1,a2,a3,a4,a5,a6,a7,a8⟩:=add_facts hgM hlb hbr
  rw [←hbb] at hcost
  have hFs:F.size=(tfill (roomT 0 (bytesI (itemsS ls))) bs.length).length:=by rw [hFb,sizeL]
  have hSs:S.size=bs.length:=by rw [hS,sizeL]
  have hfr:fillR (bytesI (buildL R)).length M=F.size:=by rw [a8,hbs,hFs,hbb]
  have hgd:∀ x∈R ++ [M],GoodM x:=fun x hx=>by
   rcases List.mem_append.1 hx with y|y
   ·exact h.gd x y
   ·rw [List.mem_singleton.1 y];exact hgM
  have hbL:buildL (R ++ [M])=itemsS ls ++ itemsA (roomT 0 (bytesI (itemsS ls))) M bs:=by
   rw [build_snoc];unfold addI;rw [hbs,h.it]
  have hlaA:LaidAt 0 (itemsS ls ++ itemsA (roomT 0 (bytesI (itemsS ls))) M bs):=by
   rw [←hbL,build_snoc];exact a1
  obtain ⟨hj,_⟩:=row_lens h.pc h.ru
  have hlsn:1024*ls.length≤(bytesI (itemsS ls)).length+1024:=by
   have e2:=h.ru.c.row.e2
   omega
  have hrl1:(R ++ [M]).length≤k+1:=by rw [List.length_append];show R.length+1≤_;omega
  rintro e w' (⟨rfl,m',st',hw,g',v',q1,q2,q3,q4,q5⟩|⟨st',hw,rfl,g',m',q1,q2,q3,q4⟩)
  ·obtain ⟨ls',j',p1,p2,p3,p4,p5,p6⟩:=h.pc.wrote (M:=M) (bs:=bs) h.ru hw hS hFb hlaA s3 (by omega) hrm (by omega) (by omega)
   refine .inl ⟨by rw [hfr];rw [hbb,Nat.mul_zero,Nat.zero_add],_,g',st',m',j',ls',kp_of q3 q5 rfl q4,⟨q1,?_,p1,p6 LS h.sy,fun hp0=>?_,?_,by rw [p2,hbL],hgd,hrl1,?_,by rw [p5];exact hcp,q2.trans h.dd⟩⟩
   ·exact p3
   ·obtain ⟨z1,z2⟩:=h.ph0 hp0
    rcases hw with ⟨_,b1,b2,b3⟩|⟨_,b1,b0,b2,b3⟩
    ·rw [b2,b3]
     exact ⟨lit_app z1 S,touched_app h.ru z2 _⟩
    ·have hFl:(F.size:Int)≤roomR m:=by
      have:=h.ru.c.roomOk.hr
      rcases hrm with ⟨y,_⟩|y
      ·omega
      ·omega
     obtain ⟨u1,_,_⟩:=h.ru.app F (by omega) hFl (by omega) (by omega) b1.1 b1.2
     rw [b2,b3]
     exact ⟨lit_app (lit_app z1 F) S,touched_app u1 (touched_app h.ru z2 _) _⟩
   ·rw [p2,notesI_app,Nat.zero_add]
    obtain ⟨_,l327⟩:=putO_len hkd hp
    obtain ⟨_,i2⟩:=itemsA_laid (i0:=0) hp l327 hok
    rw [Nat.mul_zero,Nat.zero_add] at i2
    rw [i2,if_neg (by simpa using hkd),←hFs,←hSs]
    refine h.tn.noted v' _ _ _ (fun x hx=>?_)
    have:=notesI_lt hla x hx
    omega
   ·rw [p4]
    omega
  ·have hFd:F.size≠0→LaidAt 0 (itemsS ls ++ [(fillM (roomT 0 (bytesI (itemsS ls))),F.data.toList)]):=fun hf0=>by
    have ht:¬ tfill (roomT 0 (bytesI (itemsS ls))) bs.length=[]:=fun e=>by
     rw [e] at hFs;exact hf0 hFs
    unfold itemsA at hlaA
    rw [if_neg ht,←List.append_assoc] at hlaA
    have:=(laidAt_app.1 hlaA).1
    rw [hFb]
    exact this
   obtain ⟨m'',ls',p1,p2,p3,p4,p5,p6,p7,p8,p9⟩:=h.pc.fell2 h.ru hw hFd (fun hf0=>by
    rcases hrm with ⟨y,_⟩|y
    ·exact absurd y hf0
    ·exact y) (by omega) (by omega)
   refine .inr ⟨rfl,g',st',ls',⟨q3.size,fun q hq ho=>⟨q3.block q hq (fun x=>?_),fun x=>?_⟩⟩,⟨q1.disk,q1.chg,q1.low,q1.tab0,p7.more (by omega),⟨m'',p1⟩,p3 LS h.sy,p4,p5,p6,?_,hgd,hrl1,by rw [p8];exact hcp,by omega,q2.trans h.dd⟩⟩
   ·rcases x with x|x|x
    ·exact ho.1 x
    ·exact ho.2.1 x
    ·exact ho.2.2 x
   ·rcases q4 q x with y|y
    ·exact ho.2.2 y
    ·omega
   ·rw [hbL]
    rcases p2 with e|⟨f0,e⟩
    ·rw [e];exact ⟨_,rfl⟩
    ·rw [e]
     have ht:¬ tfill (roomT 0 (bytesI (itemsS ls))) bs.length=[]:=fun e=>by
      rw [e] at hFs;exact f0 hFs
     refine ⟨[(M,bs)],?_⟩
     unfold itemsA
     rw [if_neg ht,hFb]
     simp
theorem RefJ.app {w0 w:World} {rb:Nat} {R:List MsgM} {B:ByteArray} {vI:Value} {ids:List Int} {vL:Value} {Ms:ML} (h:RefJ w0 w rb R B vI ids vL Ms) (hR:R.length≤200) (hc:Chg (fun _=>False) w0 w) {M:MsgM} {vk:Value} (hks:Strs w0 0 vk M.keys) (hs:Sound M) (hg:GoodM M) :
 Calls Tryz.prog 12 #[.pointer (some ⟨rb,0,none⟩),M.val vk] w fun e w'=>e = .returned (.int .i64 ((B.size+fillR B.size M:Nat):Int))∧∃ B' vI' ids' vL',RefTo rb vI vL vI' vL' w w'∧RefJ w0 w' rb (R ++ [M]) B' vI' ids' vL' (Ms ++ [(M,vk)]):=by
 obtain ⟨fa,fb,fc,fd⟩:=build_facts _ R rfl h.gd
 obtain ⟨a1,a2,a3,a4,a5,a6,a7,a8⟩:=add_facts hg fa fb
 have hbz:=h.bs
 have hil:ids.length=R.length:=by rw [h.id,List.length_map,←recI_len,fc]
 have hml:Ms.length=R.length:=by rw [←h.ms,List.length_map]
 refine (rapp_any h.rf (by omega) (by omega) (by omega) M vk (hks.below (chg_below hc) (Nat.le_refl _)) hs a7 hg.2 (by rw [hbz];exact fb)).mono ?_
 rintro e w' ⟨B',vI',vL',rfl,hz,hr,ht⟩
 refine ⟨rfl,B',vI',_,vL',ht,hr,?_,?_,by rw [List.map_append,h.ms];rfl,fun p hp=>?_,fun p hp=>?_,fun x hx=>?_,fun q hq=>?_⟩
 ·rw [hz,build_snoc,a3,←hbz]
 ·rw [build_snoc,a4,h.id,hbz]
 ·rcases List.mem_append.1 hp with y|y
  ·exact h.strs p y
  ·rw [List.mem_singleton.1 y];exact hks
 ·rcases List.mem_append.1 hp with y|y
  ·exact h.snd p y
  ·rw [List.mem_singleton.1 y];exact hs
 ·rcases List.mem_append.1 hx with y|y
  ·exact h.gd x y
  ·rw [List.mem_singleton.1 y];exact hg
 ·rcases ht.own q hq with y|y
  ·exact h.low q y
  ·have:=hc.size;omega
theorem lens_le:∀ ls:SegL,LenS ls→1024*ls.length≤(bytesI (itemsS ls)).length+1024
 | [],_=>by simp
 | [x],_=>by simp
 | x :: y :: r,h=>by
  have h0:=(h 0 x rfl).2 (by simp)
  have hr:LenS (y :: r):=fun i z hz=>by
   obtain ⟨a,b⟩:=h (i+1) z hz
   exact ⟨a,fun hne=>b (by simp only [List.length_cons] at hne ⊢;omega)⟩
  have ih:=lens_le (y :: r) hr
  have e:itemsS (x :: y :: r)=(x.1 ++ x.2) ++ itemsS (y :: r):=by unfold itemsS;rw [List.flatMap_cons]
  rw [e,bytesI_app,List.length_append,h0,List.length_cons]
  omega
structure CrK (w0 w:World) (d k:Nat) (g:Gh) (st:St) (S:List (ItL×ItL×List UInt8)) (LS:ItL) (R:List MsgM):Prop where
 disk:DiskG w0 w d g st
 tab0:Tab10 w0
 calm:Calm (4*k) st
 now:NoW st
 segs:SegsK S
 le:∀ x∈S,x.2.2.length≤1024
 fs:∀ i x,S[i]? = some x→∃ f,st.find (nameB tH (1024*i))=some f∧f.bytes=x.2.2
 nam:∀ nm,(nm∈st.fs.map (·.1)∧Lib.hasPrefix nm.data.toList tH.data.toList=true)↔∃ p∈plS (1024*S.length) 1024 0,nm=nameB tH p
 nm:∀ p∈st.fs,p.1.size≤1048576
 sy:SyncK S LS
 pre:∃ r,buildL R=itemsK S ++ r
 gd:∀ M∈R,GoodM M
 rl:R.length≤k
 cap:st.cap=1048576
 siz:st.size≤1400*k
 sl:1024*S.length≤150000
theorem DkJ.crash {w0 w:World} {d k:Nat} {g:Gh} {st:St} {ls:SegL} {LS:ItL} {R:List MsgM} (h:DkJ w0 w d k g st ls LS R) (hk:k≤70) (vk:Value) (bs:List Bool) (lack:Int) (hvb:BoolsOf w vk bs) (hbs:bs.length≤1000) :
 Calls Tryz.prog 13 #[.pointer (some ⟨d,0,none⟩),.agg #[vk,.int .i64 lack]] w fun e w'=>e = .returned (.tuple #[])∧∃ g' st' S,Gh.To w g g' w'∧CrK w0 w' d k g' st' S LS R:=by
 obtain ⟨fa,fb,fc,fd⟩:=build_facts _ R rfl h.gd
 obtain ⟨r,hr⟩:=h.pre
 have hrl:=h.rl
 have hbl:(bytesI (itemsS ls)).length≤1351*70:=by
  have e:=congrArg (fun l=>(bytesI l).length) hr
  simp only [bytesI_app,List.length_append] at e
  omega
 have hll:=lens_le ls h.len
 have hC:=crash_any g st vk bs lack w h.disk hvb (h.good.waitsN (by omega)) (by omega) (h.good.allIn (by omega)) (fun l hp _=>by
  have h1:=(h.good.crash bs lack h.disk hp).size
  have h2:(crashS st (imgs (g.es.map skel) (cutLast (keepL l bs) lack))).cap=st.cap:=rfl
  have h3:=h.good.cap
  rw [h2] at h1
  exact Nat.le_trans h1 (by omega))
 rw [h.dd] at hC
 refine hC.mono ?_
 rintro e w' ⟨he,ws,g',hp,hsrt,hd,ht⟩
 obtain ⟨m,hpc⟩:=h.pc
 obtain ⟨S,s1,s2,s3,s4⟩:=hpc.crash h.disk h.good hp hsrt bs lack h.len
 have hSl:S.length=ls.length:=by rw [←s1,List.length_map]
 have hit:itemsK S=itemsS ls:=by
  rw [←s1]
  unfold itemsK itemsS
  rw [List.flatMap_map]
 have hz:=h.chg.size
 have hnames:(crashS st (imgs (g.es.map skel) (cutLast (keepL ws bs) lack))).fs.map (·.1)=st.fs.map (·.1):=by
  show ((imgs (g.es.map skel) (cutLast (keepL ws bs) lack)).map fun p=>(p.1,loseF p.2.2)).map (·.1)=_
  rw [List.map_map]
  exact sk_names h.disk _
 refine ⟨he,g',_,S,ht,⟨hd,ht.d.trans h.dd,h.chg.trans ht.chg (fun i hi hx=>by have:=h.low i hx;omega),fun q hq=>?_⟩,h.tab0,⟨h.good.crash bs lack h.disk hp,rfl,rfl⟩,noW_crash _ _,s2,s3,s4,fun nm=>?_,fun p hp=>?_,?_,⟨r,by rw [hit];exact hr⟩,h.gd,h.rl,h.cap,?_,by omega⟩
 ·rcases ht.fp q hq with x|x
  ·exact h.low q x
  ·omega
 ·rw [hnames,h.nam nm,hSl]
  constructor
  ·rintro ⟨i,hi,rfl⟩
   exact ⟨_,(plS_iff (by decide) 0 ls.length _ (by omega)).2 ⟨i,Nat.zero_le _,hi,rfl⟩,rfl⟩
  ·rintro ⟨p,hp,rfl⟩
   obtain ⟨i,i1,i2,rfl⟩:=(plS_iff (by decide) 0 ls.length p (by omega)).1 hp
   exact ⟨i,i2,rfl⟩
 ·have:p.1∈st.fs.map (·.1):=by rw [←hnames];exact List.mem_map_of_mem hp
  obtain ⟨q,hq,e⟩:=List.mem_map.1 this
  rw [←e]
  exact h.nm q hq
 ·refine syncK_of ?_
  rw [s1]
  exact h.sy
 ·have z1:=sum_lose (sk_img bs lack h.disk h.good hp)
  have z2:=sk_sum h.disk (cutLast (keepL ws bs) lack)
  have z3:(crashS st (imgs (g.es.map skel) (cutLast (keepL ws bs) lack))).size=((imgs (g.es.map skel) (cutLast (keepL ws bs) lack)).map fun p=>(loseF p.2.2).bytes.length).sum:=rfl
  have z4:=h.good.sum
  have z5:=h.siz
  omega
structure CrX (w0 w:World) (d k tb:Nat) (t:TapeM) (g:Gh) (st:St) (m:RowM) (j:Nat) (LA LS:ItL) (R:List MsgM):Prop where
 ti:TapeI w0 w tb t g st m (4*k) 0 j LA
 now:NoW st
 syn:∃ r,LA=LS ++ r
 pre:∃ r,buildL R=LA ++ r
 gd:∀ M∈R,GoodM M
 rl:R.length≤k
 cap:st.cap=1048576
 dd:g.d=d
 siz:st.size≤1400*k
def KpO (g:Gh) (w:World) (tb:Nat) (t:TapeM) (g':Gh) (w':World):Prop:=w.heap.size≤w'.heap.size∧∀ q,q<w.heap.size→q∉g.fp→w'.heap[q]? = w.heap[q]?∧Off tb t g' q
def OpX (w0 w:World) (d k:Nat) (g:Gh) (LA LS:ItL) (R:List MsgM) (e:Ending) (w':World):Prop:=
 ∃ tb t g' st' m' j',e = .returned (.tuple #[.pointer (some ⟨tb,0,none⟩),.int .i64 0])∧w.heap.size≤tb∧KpO g w tb t g' w'∧Chg (fun q=>q∈g.fp) w w'∧CrX w0 w' d k tb t g' st' m' j' LA LS R
theorem opx_of {w0 w w':World} {d k j:Nat} {g:Gh} {st:St} {LA LS:ItL} {R:List MsgM} {e:Ending} (h:TOpIw w0 w g st (4*k) 0 j LA e w') (hnow:NoW st) (hs:∃ r,LA=LS ++ r) (hp:∃ r,buildL R=LA ++ r) (gd:∀ M∈R,GoodM M) (rl:R.length≤k) (cap:st.cap=1048576) (hsz:st.size≤1400*k) (dd:g.d=d):OpX w0 w d k g LA LS R e w':=by
 obtain ⟨tb,t,g',m',st',j',h1,h2,h3,h4,h5,h6,h7,h8,h9,h10,h11,h12,h13,h14,h15⟩:=h
 refine ⟨tb,t,g',st',m',j',h1,h2,⟨h9.size,fun q hq ho=>⟨h9.block q hq ho,fun x=>?_,fun x=>?_,fun x=>?_⟩⟩,h9,⟨h3,h14.1 hnow,hs,hp,gd,rl,h8.trans cap,h4.trans dd,Nat.le_trans h14.2 hsz⟩⟩
 ·have:=h11 q x;omega
 ·omega
 ·rcases h13 q x with y|y
  ·exact ho y
  ·omega
theorem numC_pos {x:ItL×ItL×List UInt8} {r:List (ItL×ItL×List UInt8)}:0<numC (x :: r):=by
 unfold numC
 split<;>omega
theorem CrK.open_ {w0 w:World} {d k:Nat} {g:Gh} {st:St} {S:List (ItL×ItL×List UInt8)} {LS:ItL} {R:List MsgM} (h:CrK w0 w d k g st S LS R) (hk:k≤70) :
 ∃ LA,Calls Tryz.prog 7 #[.pointer (some ⟨d,0,none⟩)] w (OpX w0 w d k g LA LS R):=by
 obtain ⟨r,hr⟩:=h.pre
 obtain ⟨fa,fb,fc,fd⟩:=build_facts _ R rfl h.gd
 cases S with
 | nil=>
  have hLS:LS=[]:=h.sy
  have hrow:RowC (4*k) (newRow tH ((1024:Nat):Int)) st 1024 0 0 (bytesI []):=by
   refine ⟨⟨h.calm,by decide,rfl,by decide,by decide,rfl,rfl,rfl,Nat.le_refl _,by decide,by decide,by decide,by decide,h.nam,fun i a b=>by omega,fun _=>rfl,⟨0,rfl,Nat.le_refl _,by decide⟩⟩,fun i a b=>by omega,fun hx=>by omega,h.nm⟩
  refine ⟨[],(topen_laid_w h.disk h.tab0 hrow (by omega) rfl trivial (by decide) (by decide)).mono ?_⟩
  intro e w' hx
  exact opx_of hx h.now ⟨[],by rw [hLS];rfl⟩ ⟨buildL R,rfl⟩ h.gd h.rl h.cap h.siz h.disk.d
 | cons x S=>
  rw [hr] at fa
  obtain ⟨LA,LB,q1,q2,q3⟩:=topen_torn_w h.disk h.tab0 h.calm (by omega) h.le numC_pos h.sl h.fs h.nam h.nm h.segs (laidAt_app.1 fa).1
  refine ⟨LA,q3.mono ?_⟩
  intro e w' hx
  refine opx_of (st:=openS st tH 1024) hx (noW_delete h.now _) (q2 LS h.sy) ⟨LB ++ r,by rw [hr,q1,List.append_assoc]⟩ h.gd h.rl ?_ (Nat.le_trans (size_delete _ _) h.siz) h.disk.d
  show (deleteAll st _).cap=_
  rw [(deleteAll_keeps _ _).2.2]
  exact h.cap
theorem CrX.again {w0 w:World} {d k tb:Nat} {t:TapeM} {g:Gh} {st:St} {m:RowM} {j:Nat} {LA LS:ItL} {R:List MsgM} (h:CrX w0 w d k tb t g st m j LA LS R) (hk:k≤70) :
 Calls Tryz.prog 7 #[.pointer (some ⟨d,0,none⟩)] w (OpX w0 w d k g LA LS R):=by
 obtain ⟨r,hr⟩:=h.pre
 obtain ⟨fa,fb,fc,fd⟩:=build_facts _ R rfl h.gd
 have hbl:(bytesI LA).length≤1351*70:=by
  have e:=congrArg (fun l=>(bytesI l).length) hr
  simp only [bytesI_app,List.length_append] at e
  have:=h.rl
  omega
 refine (topen_laid_w (DiskG.of h.ti.tg.row h.dd) h.ti.tg.row.tab0 h.ti.rc (by omega) h.ti.hd h.ti.la (by omega) (by omega)).mono ?_
 intro e w' hx
 exact opx_of hx h.now h.syn h.pre h.gd h.rl h.cap h.siz h.dd
theorem now_waits {st:St} (h:NoW st):st.waits=0:=by
 unfold St.waits
 have:∀ l:List (ByteArray×FileM),(∀ p∈l,p.2.writes=[])→(l.map fun p=>p.2.writes.length).sum=0:=by
  intro l
  induction l with
  | nil=>intro _;rfl
  | cons p l ih=>
   intro hl
   rw [List.map_cons,List.sum_cons,hl p (List.mem_cons_self ..),ih (fun q hq=>hl q (List.mem_cons_of_mem _ hq))]
   rfl
 exact this _ h
attribute [local go_sem] fr_opt
structure CutJ (w0 w wr:World) (rb:Nat) (R:List MsgM) (Ms:ML) (k:Nat) (B:ByteArray) (vI:Value) (ids:List Int) (vL:Value):Prop where
 rj:RefJ w0 wr rb (R.take k) B vI ids vL (Ms.take k)
 chg:Chg (fun q=>q=rb) w wr
 own:∀ q,RefS rb vI vL q→q=rb∨w.heap.size≤q
def RCutTo (w0 w:World) (rb:Nat) (R:List MsgM) (Ms:ML) (n:Nat) (e:Ending) (w':World):Prop:=
 e = .returned (.tuple #[])∧∃ B' vI' ids' vL',CutJ w0 w w' rb R Ms n B' vI' ids' vL'
theorem refj_set {w0 w wr:World} {rb:Nat} {R:List MsgM} {Ms:ML} {k:Nat} {B:ByteArray} {vI:Value} {ids:List Int} {vL:Value} (h:CutJ w0 w wr rb R Ms k B vI ids vL):CutJ w0 w (wr.setCell ⟨rb,1,none⟩ (.int .i64 0)) rb R Ms k B vI ids vL:=by
 have hset:Chg (fun q=>q=rb) wr (wr.setCell ⟨rb,1,none⟩ (.int .i64 0)):=Chg.setCell (S:=fun q=>q=rb) (p:=⟨rb,1,none⟩) (Chg.refl _ _) (fun _=>rfl) _
 refine ⟨{ h.rj with rf:=⟨heap_setCell_same wr rb 1 _ _ (.int .i64 0) h.rj.rf.at_,h.rj.rf.ids.chg hset (fun g hg hx=>(h.rj.rf.apI g hg).1 hx),hset.row h.rj.rf.row (fun g hg hx=>h.rj.rf.row.apart h.rj.rf.at_ (by decide) g hg hx),h.rj.rf.apI⟩},h.chg.trans hset (fun i hi hx=>hx),h.own⟩
set_option maxHeartbeats 4000000 in
set_option maxRecDepth 100000 in
theorem rcut_any {w0 w:World} {rb:Nat} {R:List MsgM} {B:ByteArray} {vI:Value} {ids:List Int} {vL:Value} {Ms:ML} (h:RefJ w0 w rb R B vI ids vL Ms) (hc0:Chg (fun _=>False) w0 w) (hR:R.length≤100) (n:Nat) (hn:n≤R.length) :
 Calls Tryz.prog 16 #[.pointer (some ⟨rb,0,none⟩),.int .i64 (n:Int)] w (RCutTo w0 w rb R Ms n):=by
 have hat:=h.rf.at_
 have hml:Ms.length=R.length:=by rw [←h.ms,List.length_map]
 have hlow:w0.heap.size≤rb:=h.low rb (.inl rfl)
 -- the world with all gone
 obtain ⟨W1,hW1⟩:∃ W,W=((w.setCell ⟨rb,0,none⟩ (.string ⟨#[]⟩)).setCell ⟨rb,2,none⟩ (.slice none 0 0)).setCell ⟨rb,3,none⟩ (.slice none 0 0):=⟨_,rfl⟩
 have hat1:W1.heap[rb]? = some (.cells #[.string ⟨#[]⟩,.int .i64 0,.slice none 0 0,.slice none 0 0] 42 (0,0)):=by
  rw [hW1]
  have a:=heap_setCell_same w rb 0 _ _ (.string ⟨#[]⟩) hat
  have b:=heap_setCell_same _ rb 2 _ _ (.slice none 0 0) a
  exact heap_setCell_same _ rb 3 _ _ (.slice none 0 0) b
 have hs1:∀ (W:World) (i:Nat) (u:Value),Chg (fun q=>q=rb) W (W.setCell ⟨rb,i,none⟩ u):=fun W i u=>Chg.setCell (S:=fun q=>q=rb) (p:=⟨rb,i,none⟩) (Chg.refl _ _) (fun _=>rfl) _
 have hc1:Chg (fun q=>q=rb) w W1:=by
  rw [hW1]
  exact ((hs1 _ _ _).trans (hs1 _ _ _) (fun i hi x=>x)).trans (hs1 _ _ _) (fun i hi x=>x)
 have hJ1:CutJ w0 w W1 rb R Ms 0 ⟨#[]⟩ (.slice none 0 0) [] (.slice none 0 0):=by
  refine ⟨⟨⟨hat1,ownI_nil _ _,MRow.nil _,fun k hk=>(by cases hk)⟩,rfl,rfl,rfl,fun p hp=>(by cases hp),fun p hp=>(by cases hp),fun p hp=>(by cases hp),fun q hq=>?_⟩,hc1,fun q hq=>?_⟩
  ·rcases hq with rfl|hq|hq
   ·exact hlow
   ·cases hq
   ·cases hq
  ·rcases hq with rfl|hq|hq
   ·exact .inl rfl
   ·cases hq
   ·cases hq
 have hcw:∀ W,Chg (fun q=>q=rb) w W→Chg (fun _=>False) w0 W:=fun W hW=>hc0.trans hW (fun i hi hx=>by omega)
 have happ:∀ W k,k<n→(∃ B vI ids vL,CutJ w0 w W rb R Ms k B vI ids vL)→∀ M vk,Ms[k]? = some (M,vk)→Calls Tryz.prog 12 #[.pointer (some ⟨rb,0,none⟩),M.val vk] W fun e w'=>(∃ z,e = .returned (.int .i64 z))∧∃ B vI ids vL,CutJ w0 w w' rb R Ms (k+1) B vI ids vL:=fun W k hk ⟨B,vI,ids,vL,hj⟩ M vk hM=>by
  have hmem:(M,vk)∈Ms:=List.mem_of_getElem? hM
  have hRk:R[k]? = some M:=by rw [←h.ms,List.getElem?_map,hM];rfl
  have hgd:GoodM M:=h.gd M (List.mem_of_getElem? hRk)
  refine (hj.rj.app (by rw [List.length_take];omega) (hcw W hj.chg) (h.strs _ hmem) (h.snd _ hmem) hgd).mono ?_
  rintro e w' ⟨he,B',vI',ids',vL',ht,hr⟩
  have e1:R.take k ++ [M]=R.take (k+1):=by rw [List.take_add_one,hRk];rfl
  have e2:Ms.take k ++ [(M,vk)]=Ms.take (k+1):=by rw [List.take_add_one,hM];rfl
  rw [e1,e2] at hr
  have hz:=hj.chg.size
  refine ⟨⟨_,he⟩,B',vI',ids',vL',hr,hj.chg.trans ht.chg (fun i hi hx=>?_),fun q hq=>?_⟩
  ·rcases hj.own i hx with y|y
   ·exact y
   ·omega
  ·rcases ht.own q hq with y|y
   ·exact hj.own q y
   ·exact .inr (by omega)
 have hcell:∀ W,Chg (fun q=>q=rb) w W→∀ k M vk,Ms[k]? = some (M,vk)→∃ g cap,vL = .slice (some ⟨g,0,none⟩) Ms.length cap∧∀ j u,(M.cells vk).toList[j]? = some u→W.cell? ⟨g,k*10+j,none⟩=some u:=fun W hW k M vk hM=>by
  rcases h.rf.row.form with ⟨_,h0⟩|⟨g,cap,e,ho,hlt,hcs⟩
  ·rw [h0] at hM;cases hM
  ·refine ⟨g,cap,e,fun j u hu=>hW.cell (p:=⟨g,k*10+j,none⟩) (hcs k (M,vk) hM j u hu) (fun hx=>?_)⟩
   exact h.rf.row.apart hat (by decide) g ho hx
 obtain ⟨aL,cL,hvL⟩:=h.rf.row.len
 have hcapL:Ms.length≤cL:=by
  rcases h.rf.row.form with ⟨e1,h0⟩|⟨g,cap,e,ho,hlt,hcs⟩
  ·rw [h0];exact Nat.zero_le _
  ·have:=h.rf.row
   rcases this.2 with ⟨e2,h0⟩|⟨g2,cap2,cur,e2,_,_,h3,_⟩
   ·rw [h0];exact Nat.zero_le _
   ·rw [e2] at hvL
    injection hvL with _ _ h5
    omega
 have c0:w.cell? ⟨rb,0,none⟩=some (.string B):=by simp [World.cell?,hat]
 have c1:w.cell? ⟨rb,1,none⟩=some (.int .i64 0):=by simp [World.cell?,hat]
 have c2:w.cell? ⟨rb,2,none⟩=some vI:=by simp [World.cell?,hat]
 have c3:w.cell? ⟨rb,3,none⟩=some vL:=by simp [World.cell?,hat]
 have z0:∀ i,w.frozen? ⟨rb,i,none⟩=false:=fun i=>by simp [World.frozen?,hat]
 have z00:=z0 0
 have z02:=z0 2
 have z03:=z0 3
 have hend:∀ W,(∃ B vI ids vL,CutJ w0 w W rb R Ms n B vI ids vL)→W.cell? ⟨rb,1,none⟩=some (.int .i64 0)∧W.frozen? ⟨rb,1,none⟩=false∧RCutTo w0 w rb R Ms n (.returned (.tuple #[])) (W.setCell ⟨rb,1,none⟩ (.int .i64 0)):=fun W ⟨B,vI,ids,vL,hj⟩=>by
  have hb:=hj.rj.rf.at_
  exact ⟨by simp [World.cell?,hb],by simp [World.frozen?,hb],rfl,B,vI,ids,vL,refj_set hj⟩
 subst hvL
 obtain ⟨N,hN⟩:∃ N,N=Ms.length:=⟨_,rfl⟩
 have hget:∀ k,k<n→∃ M vk,Ms[k]? = some (M,vk):=fun k hk=>⟨_,_,List.getElem?_eq_getElem (by omega)⟩
 rw [←hN] at hcell hcapL
 have hnN:n≤N:=by omega
 have hnc:n≤cL:=by omega
 have HCE:=Lib.hid hcell
 have HAP:=Lib.hid happ
 have HEN:=Lib.hid hend
 have HJ1:=Lib.hid hJ1
 have HW1:=Lib.hid hW1
 have HGE:=Lib.hid hget
 have hn100:n≤100:=by omega
 rw [←hN] at c3
 clear hat hml hlow hat1 hs1 hc1 hJ1 hcw happ hcell z0 hend hN hget h hc0 hR hn hW1
 go_enter Tryz.func16,Tryz.ntmps16
 go_upto_region 3 with fail
 rw [←HW1.out]
 go_wp2_with fail
 go_loopw [6] (fun i wr=>∃ k:Nat,k≤n∧i = .int .i64 (k:Int)∧Hid (∃ B vI ids vL,CutJ w0 w wr rb R Ms k B vI ids vL)) (fun i _=>n - (intOf i).toNat)
 case atStart=>exact ⟨0,Nat.zero_le _,rfl,Lib.hid ⟨_,_,_,_,HJ1.out⟩⟩
 case round=>
  obtain ⟨k,hk,rfl,HJ⟩:=hrel
  by_cases hlt:k<n
  ·have hlt':(k:Int)<(n:Int):=by omega
   obtain ⟨M,vk,hM⟩:=HGE.out k hlt
   obtain ⟨g,cap,hve,hcs⟩:=HCE.out wr (by obtain ⟨_,_,_,_,hj⟩:=HJ.out;exact hj.chg) k M vk hM
   have hA:=HAP.out wr k hlt HJ.out M vk hM
   injection hve with e1 e2 e3
   subst e1 e3
   have k0:wr.cell? ⟨g,k*10,none⟩=some (.int .i64 M.kind):=hcs 0 _ rfl
   have k1:wr.cell? ⟨g,k*10+1,none⟩=some (.int .i64 M.queue):=hcs 1 _ rfl
   have k2:wr.cell? ⟨g,k*10+2,none⟩=some (.int .i64 M.due):=hcs 2 _ rfl
   have k3:wr.cell? ⟨g,k*10+3,none⟩=some (.int .i64 M.retry):=hcs 3 _ rfl
   have k4:wr.cell? ⟨g,k*10+4,none⟩=some (.int .i64 M.ref):=hcs 4 _ rfl
   have k5:wr.cell? ⟨g,k*10+5,none⟩=some (.int .i64 M.born):=hcs 5 _ rfl
   have k6:wr.cell? ⟨g,k*10+6,none⟩=some (.string M.topic):=hcs 6 _ rfl
   have k7:wr.cell? ⟨g,k*10+7,none⟩=some (.string M.tag):=hcs 7 _ rfl
   have k8:wr.cell? ⟨g,k*10+8,none⟩=some (.string M.body):=hcs 8 _ rfl
   have k9:wr.cell? ⟨g,k*10+9,none⟩=some vk:=hcs 9 _ rfl
   unfold MsgM.val MsgM.cells at hA
   have HA:=Lib.hid hA
   clear hcs hA hM hlt
   go_wp2_with fail
   refine HA.out.mono ?_
   rintro e w2 ⟨⟨z,rfl⟩,hj2⟩
   have HJ2:=Lib.hid hj2
   clear hj2
   go_wp2_with fail
   exact ⟨⟨k+1,by omega,by go_num,HJ2⟩,by simp [intOf];omega⟩
  ·obtain rfl:n=k:=by omega
   obtain ⟨b1,b2,b3⟩:=HEN.out wr HJ.out
   have HB3:=Lib.hid b3
   clear b3
   go_wp2_with fail
   first|exact bodyPost_end (results_none rfl _ _ _) rfl HB3.out|exact bodyPost_ret (results_none rfl _ _ _) rfl HB3.out|(go_end0;exact HB3.out)
end Go.Proofs.YtnemlgfldfedpaaGreatDoor
namespace Go.Proofs.YtnemlgfldfedpaaGreatDoor
open Go.RowKit Go.Deep
theorem tpj_first {w0 w w':World} {d:Nat} {g:Gh} {e:Ending} (h:TOpIw w0 w g (newSt 1048576) 0 0 0 [] e w') (hd:g.d=d) :
 ∃ tb t g' st' m',e = .returned (.tuple #[.pointer (some ⟨tb,0,none⟩),.int .i64 0])∧TpJ false w0 w' d 0 tb t g' st' m' 0 [] [] []:=by
 obtain ⟨tb,t,g',m',st',j',h1,h2,h3,h4,h5,h6,h7,h8,h9,h10,h11,h12,h13,h14,h15⟩:=h
 have hj:0=j':=h7 rfl
 subst hj
 have hn:=h3.rc.row.next
 refine ⟨tb,t,g',st',m',h1,⟨h3.tg,rowU_calm h3.rc,⟨h3.hd,h3.rc.row.size,by rw [hn];rfl,by decide,fun i x hx=>(by cases hx)⟩,rfl,fun _=>⟨h3.rc.row.calm.lit,by rw [h15,hn];rfl⟩,h3.tn,rfl,fun M hM=>(by cases hM),Nat.le_refl _,h14.2,h8,h4.trans hd⟩⟩
theorem refj_first {w0 w:World} {rb:Nat} (h:w.heap[rb]? = some (.cells #[.string ⟨#[]⟩,.int .i64 0,.slice none 0 0,.slice none 0 0] 42 (0,0))) (hl:w0.heap.size≤rb):RefJ w0 w rb [] ⟨#[]⟩ (.slice none 0 0) [] (.slice none 0 0) []:=
 ⟨⟨h,ownI_nil _ _,MRow.nil _,fun k hk=>(by cases hk)⟩,rfl,rfl,rfl,fun p hp=>(by cases hp),fun p hp=>(by cases hp),fun p hp=>(by cases hp),fun q hq=>by
  rcases hq with rfl|hq|hq
  ·exact hl
  ·cases hq
  ·cases hq⟩
def SJ (ph:Bool) (w0 w:World) (d k tb rb sy mn:Nat):Prop:=
 ∃ t g st m j ls LS R B vI ids vL Ms,TpJ ph w0 w d k tb t g st m j ls LS R∧RefJ w0 w rb R B vI ids vL Ms∧(∀ q,RefS rb vI vL q→Off tb t g q)∧sy=(recI LS).length∧mn=R.length
theorem SJ.more {ph:Bool} {w0 w:World} {d k tb rb sy mn:Nat} (h:SJ ph w0 w d k tb rb sy mn):SJ ph w0 w d (k+1) tb rb sy mn:=by
 obtain ⟨t,g,st,m,j,ls,LS,R,B,vI,ids,vL,Ms,a,b,c,e,f⟩:=h
 exact ⟨t,g,st,m,j,ls,LS,R,B,vI,ids,vL,Ms,a.more,b,c,e,f⟩
theorem SJ.chg {ph:Bool} {w0 w:World} {d k tb rb sy mn:Nat} (h:SJ ph w0 w d k tb rb sy mn):Chg (fun _=>False) w0 w:=by
 obtain ⟨t,g,st,m,j,ls,LS,R,B,vI,ids,vL,Ms,a,_⟩:=h
 exact a.tg.row.chg
def SJB (ph:Bool) (w0 w:World) (d k tb rb sy mn X:Nat) (o:Obj):Prop:=
 ∃ t g st m j ls LS R B vI ids vL Ms,TpJ ph w0 w d k tb t g st m j ls LS R∧RefJ w0 w rb R B vI ids vL Ms∧(∀ q,RefS rb vI vL q→Off tb t g q)∧sy=(recI LS).length∧mn=R.length∧X<w.heap.size∧Off tb t g X∧¬ RefS rb vI vL X∧w.heap[X]? = some o
theorem SJ.box {ph:Bool} {w0 w:World} {d k tb rb sy mn:Nat} (h:SJ ph w0 w d k tb rb sy mn) (cs:Array Value) (T:TypeId):SJB ph w0 (w.alloc (.cells cs T)) d k tb rb sy mn w.heap.size (.cells cs T (0,0)):=by
 obtain ⟨t,g,st,m,j,ls,LS,R,B,vI,ids,vL,Ms,a,b,c,e,f⟩:=h
 have hc:Chg (fun _=>False) w (w.alloc (.cells cs T)):=Chg.alloc _ (Chg.refl _ _) _
 refine ⟨t,g,st,m,j,ls,LS,R,B,vI,ids,vL,Ms,a.new hc,b.new hc (fun _ _ x=>x),c,e,f,by rw [World.size_alloc];omega,⟨fun x=>?_,fun x=>?_,fun x=>?_⟩,fun x=>?_,heap_alloc_new w _⟩
 ·have:=a.tg.tape.lt _ x;omega
 ·have:=a.tg.row.row.lt;omega
 ·have:=a.tg.row.disk.lt _ x;omega
 ·have:=b.rf.lt x;omega
theorem SJB.at_ {ph:Bool} {w0 w:World} {d k tb rb sy mn X:Nat} {o:Obj} (h:SJB ph w0 w d k tb rb sy mn X o):w.heap[X]? = some o:=by
 obtain ⟨t,g,st,m,j,ls,LS,R,B,vI,ids,vL,Ms,a,b,c,e,f,x⟩:=h
 exact x.2.2.2
theorem SJB.sj {ph:Bool} {w0 w:World} {d k tb rb sy mn X:Nat} {o:Obj} (h:SJB ph w0 w d k tb rb sy mn X o):SJ ph w0 w d k tb rb sy mn:=by
 obtain ⟨t,g,st,m,j,ls,LS,R,B,vI,ids,vL,Ms,a,b,c,e,f,_⟩:=h
 exact ⟨t,g,st,m,j,ls,LS,R,B,vI,ids,vL,Ms,a,b,c,e,f⟩
theorem SJB.new {ph:Bool} {w0 w w':World} {d k tb rb sy mn X:Nat} {o:Obj} (h:SJB ph w0 w d k tb rb sy mn X o) (hc:Chg (fun _=>False) w w'):SJB ph w0 w' d k tb rb sy mn X o:=by
 obtain ⟨t,g,st,m,j,ls,LS,R,B,vI,ids,vL,Ms,a,b,c,e,f,x1,x2,x3,x4⟩:=h
 exact ⟨t,g,st,m,j,ls,LS,R,B,vI,ids,vL,Ms,a.new hc,b.new hc (fun _ _ x=>x),c,e,f,Nat.lt_of_lt_of_le x1 hc.size,x2,x3,hc.heap x4 (fun x=>x)⟩
theorem refj_kp {w0 w w':World} {tb rb:Nat} {t t':TapeM} {g g':Gh} {R:List MsgM} {B:ByteArray} {vI:Value} {ids:List Int} {vL:Value} {Ms:ML} (h:RefJ w0 w rb R B vI ids vL Ms) (ho:∀ q,RefS rb vI vL q→Off tb t g q) (hk:∀ q,q<w.heap.size→Off tb t g q→w'.heap[q]? = w.heap[q]?) (hs:Chg (fun _=>False) w0 w) (hs':Chg (fun _=>False) w0 w') (hz:w.heap.size≤w'.heap.size):RefJ w0 w' rb R B vI ids vL Ms:=by
 refine h.new (S:=fun q=>q<w.heap.size∧w'.heap[q]?≠w.heap[q]?) ⟨hs'.os.trans hs.os.symm,hs'.tape.trans hs.tape.symm,hs'.output.trans hs.output.symm,hz,fun q hq hn=>?_⟩ (fun q hq hx=>hx.2 (hk q hx.1 (ho q hq)))
 exact Classical.byContradiction fun hx=>hn ⟨hq,hx⟩
theorem SJB.sync {w0 w:World} {d k tb rb sy mn X:Nat} {o:Obj} (h:SJB false w0 w d k tb rb sy mn X o) (hk:k≤100) :
 Calls Tryz.prog 8 #[.pointer (some ⟨tb,0,none⟩)] w fun e w'=>e = .returned (.int .i64 0)∧SJB true w0 w' d k tb rb mn mn X o:=by
 obtain ⟨t,g,st,m,j,ls,LS,R,B,vI,ids,vL,Ms,a,b,c,e,f,x1,x2,x3,x4⟩:=h
 refine (a.sync hk).mono ?_
 rintro e w' ⟨rfl,g',st',m',ls',hkp,ht⟩
 refine ⟨rfl,t,g',st',m',j,ls',buildL R,R,B,vI,ids,vL,Ms,ht,refj_kp (g':=g') (t':=t) b c (fun q hq ho=>(hkp.2 q hq ho).1) a.tg.row.chg ht.tg.row.chg hkp.1,fun q hq=>(hkp.2 q (b.rf.lt hq) (c q hq)).2,?_,f,Nat.lt_of_lt_of_le x1 hkp.1,(hkp.2 X x1 x2).2,x3,(hkp.2 X x1 x2).1.trans x4⟩
 rw [(build_facts _ R rfl a.gd).2.2.1]
 exact f
theorem SJB.fuse {ph:Bool} {w0 w:World} {d k tb rb sy mn X:Nat} {o:Obj} (h:SJB ph w0 w d k tb rb sy mn X o) (x:Int) (hx:x≤9223372036854775807) :
 Calls Tryz.prog 9 #[.pointer (some ⟨d,0,none⟩),.int .i64 x] w fun e w'=>e = .returned (.tuple #[])∧SJB true w0 w' d k tb rb sy mn X o:=by
 obtain ⟨t,g,st,m,j,ls,LS,R,B,vI,ids,vL,Ms,a,b,c,e,f,x1,x2,x3,x4⟩:=h
 refine (a.fuse x hx).mono ?_
 rintro e w' ⟨rfl,hkp,st',ht⟩
 exact ⟨rfl,t,g,st',m,j,ls,LS,R,B,vI,ids,vL,Ms,ht,refj_kp (g':=g) (t':=t) b c (fun q hq ho=>(hkp.2 q hq ho).1) a.tg.row.chg ht.tg.row.chg hkp.1,c,by assumption,f,Nat.lt_of_lt_of_le x1 hkp.1,x2,x3,(hkp.2 X x1 x2).1.trans x4⟩
def MidU (ph:Bool) (w0 w:World) (d k tb rb sy mn:Nat) (M:MsgM) (X:Nat) (o:Obj):Prop:=
 w.heap[X]? = some o ∧
 ∃ t g st m j ls LS R B vI ids vL Ms,TpJ ph w0 w d (k+1) tb t g st m j ls LS (R ++ [M])∧RefJ w0 w rb R B vI ids vL Ms∧(∀ q,RefS rb vI vL q→Off tb t g q)∧sy=(recI LS).length∧mn=R.length∧GoodM M
def MidD (w0 w:World) (d k rb sy mn:Nat) (M:MsgM) (X:Nat) (o:Obj):Prop:=
 w.heap[X]? = some o ∧
 ∃ g st ls LS R B vI ids vL Ms,DkJ w0 w d (k+1) g st ls LS (R ++ [M])∧RefJ w0 w rb R B vI ids vL Ms∧(∀ q,RefS rb vI vL q→q∉g.fp)∧sy=(recI LS).length∧mn=R.length∧GoodM M
def EJ (w0 w:World) (d rb sy mn:Nat):Prop:=
 ∃ k g st ls LS R B vI ids vL Ms,k≤70∧DkJ w0 w d k g st ls LS R∧RefJ w0 w rb R B vI ids vL Ms∧(∀ q,RefS rb vI vL q→q∉g.fp)∧sy=(recI LS).length∧mn=R.length
theorem SJ.end_ {ph:Bool} {w0 w:World} {d k tb rb sy mn:Nat} (h:SJ ph w0 w d k tb rb sy mn) (hk:k≤70):EJ w0 w d rb sy mn:=by
 obtain ⟨t,g,st,m,j,ls,LS,R,B,vI,ids,vL,Ms,a,b,c,e,f⟩:=h
 exact ⟨k,g,st,ls,LS,R,B,vI,ids,vL,Ms,hk,a.dk,b,fun q hq=>(c q hq).2.2,e,f⟩
theorem SJB.step {ph:Bool} {w0 w:World} {d k tb rb sy mn X:Nat} {o:Obj} (h:SJB ph w0 w d k tb rb sy mn X o) (hk:k≤60) {M:MsgM} {vk:Value} (hks:Strs w 0 vk M.keys) (hcap:CapOk vk) (hs:Sound M) :
 ∃ c:Nat,Calls Tryz.prog 10 #[.pointer (some ⟨rb,0,none⟩),M.val vk] w (fun e w'=>e = .returned (.int .i64 (c:Nat))∧Below w.heap.size w w') ∧
  (c≠0→∀ W,Below w.heap.size w W→Calls Tryz.prog 11 #[.pointer (some ⟨tb,0,none⟩),M.val vk] W fun e w'=>
   (∃ id:Int,e = .returned (.tuple #[.int .i64 id,.int .i64 0])∧MidU ph w0 w' d k tb rb sy mn M X o)∨(e = .returned (.tuple #[.int .i64 0,.int .i64 8])∧MidD w0 w' d k rb sy mn M X o)):=by
 obtain ⟨t,g,st,m,j,ls,LS,R,B,vI,ids,vL,Ms,a,b,c,e,f,x1,x2,x3,x4⟩:=h
 have hbs:=b.bs
 obtain ⟨_,_,_,fd⟩:=build_facts _ R rfl a.gd
 have hrl:=a.rl
 refine ⟨costR B.size M,rcost_any b.rf.ref (by omega) M vk hks hs,fun hc W hW=>?_⟩
 rw [hbs] at hc
 have a':=a.new (Chg.of_below hW)
 obtain ⟨hgM,hA⟩:=a'.append (by omega) (hks.below hW (Nat.le_refl _)) hcap hs hc
 have b':=b.new (Chg.of_below hW:Chg (fun _=>False) w W) (fun _ _ x=>x)
 have y1:=Nat.lt_of_lt_of_le x1 hW.size
 have y4:=(Chg.of_below hW:Chg (fun _=>False) w W).heap x4 (fun x=>x)
 refine hA.mono ?_
 rintro e1 w' (⟨he,t',g',st',m',j',ls',hkp,ht⟩|⟨he,g',st',ls',hkp,ht⟩)
 ·exact .inl ⟨_,he,(hkp.2 X y1 x2).1.trans y4,t',g',st',m',j',ls',LS,R,B,vI,ids,vL,Ms,ht,refj_kp (g':=g') (t':=t') b' c (fun q hq ho=>(hkp.2 q hq ho).1) a'.tg.row.chg ht.tg.row.chg hkp.1,fun q hq=>(hkp.2 q (b'.rf.lt hq) (c q hq)).2,e,f,hgM⟩
 ·exact .inr ⟨he,(hkp.2 X y1 x2).1.trans y4,g',st',ls',LS,R,B,vI,ids,vL,Ms,ht,refj_kp (g':=g') (t':=t) b' c (fun q hq ho=>(hkp.2 q hq ho).1) a'.tg.row.chg ht.chg hkp.1,fun q hq=>(hkp.2 q (b'.rf.lt hq) (c q hq)).2,e,f,hgM⟩
theorem MidU.app {ph:Bool} {w0 w:World} {d k tb rb sy mn:Nat} {M:MsgM} {X:Nat} {o:Obj} (h:MidU ph w0 w d k tb rb sy mn M X o) (hk:k≤60) {vk:Value} (hks:Strs w0 0 vk M.keys) (hs:Sound M) :
 Calls Tryz.prog 12 #[.pointer (some ⟨rb,0,none⟩),M.val vk] w fun e w'=>(∃ id:Int,e = .returned (.int .i64 id))∧SJ ph w0 w' d (k+1) tb rb sy (mn+1):=by
 obtain ⟨_,t,g,st,m,j,ls,LS,R,B,vI,ids,vL,Ms,a,b,c,e,f,hgM⟩:=h
 have hrl:=a.rl
 rw [List.length_append] at hrl
 have hrl:R.length+1≤k+1:=hrl
 refine (b.app (by omega) a.tg.row.chg hks hs hgM).mono ?_
 rintro e1 w' ⟨he,B',vI',ids',vL',ht,hr⟩
 refine ⟨⟨_,he⟩,t,g,st,m,j,ls,LS,R ++ [M],B',vI',ids',vL',_,a.apart ht.chg (fun q hq=>⟨c q hq,b.low q hq⟩),hr,fun q hq=>?_,e,by rw [List.length_append,f];rfl⟩
 rcases ht.own q hq with y|y
 ·exact c q y
 ·refine ⟨fun x=>?_,fun x=>?_,fun x=>?_⟩
  ·have:=a.tg.tape.lt q x;omega
  ·have:=a.tg.row.row.lt;omega
  ·have:=a.tg.row.disk.lt q x;omega
theorem DkJ.apart {w0 w w':World} {S:Nat→Prop} {d k:Nat} {g:Gh} {st:St} {ls:SegL} {LS:ItL} {R:List MsgM} (h:DkJ w0 w d k g st ls LS R) (hc:Chg S w w') (hS:∀ q,S q→q∉g.fp∧w0.heap.size≤q):DkJ w0 w' d k g st ls LS R:=
 { h with disk:=h.disk.chg hc (fun q hq x=>(hS q x).1 hq),chg:=h.chg.trans hc (fun i hi x=>by have:=(hS i x).2;omega)}
theorem MidD.app {w0 w:World} {d k rb sy mn:Nat} {M:MsgM} {X:Nat} {o:Obj} (h:MidD w0 w d k rb sy mn M X o) (hk:k≤60) {vk:Value} (hks:Strs w0 0 vk M.keys) (hs:Sound M) :
 Calls Tryz.prog 12 #[.pointer (some ⟨rb,0,none⟩),M.val vk] w fun e w'=>(∃ id:Int,e = .returned (.int .i64 id))∧EJ w0 w' d rb sy (mn+1):=by
 obtain ⟨_,g,st,ls,LS,R,B,vI,ids,vL,Ms,a,b,c,e,f,hgM⟩:=h
 have hrl:=a.rl
 rw [List.length_append] at hrl
 have hrl:R.length+1≤k+1:=hrl
 refine (b.app (by omega) a.chg hks hs hgM).mono ?_
 rintro e1 w' ⟨he,B',vI',ids',vL',ht,hr⟩
 refine ⟨⟨_,he⟩,k+1,g,st,ls,LS,R ++ [M],B',vI',ids',vL',_,by omega,a.apart ht.chg (fun q hq=>⟨c q hq,b.low q hq⟩),hr,fun q hq=>?_,e,by rw [List.length_append,f];rfl⟩
 rcases ht.own q hq with y|y
 ·exact c q y
 ·intro x
  have:=a.disk.lt q x;omega
theorem EJ.chg {w0 w:World} {d rb sy mn:Nat} (h:EJ w0 w d rb sy mn):Chg (fun _=>False) w0 w:=by
 obtain ⟨k,g,st,ls,LS,R,B,vI,ids,vL,Ms,_,a,_⟩:=h
 exact a.chg
def KJ (w0 w:World) (d rb sy mn:Nat):Prop:=
 ∃ k g st S LS R B vI ids vL Ms,k≤70∧CrK w0 w d k g st S LS R∧RefJ w0 w rb R B vI ids vL Ms∧(∀ q,RefS rb vI vL q→q∉g.fp)∧sy=(recI LS).length∧mn=R.length
theorem EJ.crash {w0 w:World} {d rb sy mn:Nat} (h:EJ w0 w d rb sy mn) (vk:Value) (bs:List Bool) (lack:Int) (hvb:BoolsOf w vk bs) (hbs:bs.length≤1000) :
 Calls Tryz.prog 13 #[.pointer (some ⟨d,0,none⟩),.agg #[vk,.int .i64 lack]] w fun e w'=>e = .returned (.tuple #[])∧KJ w0 w' d rb sy mn:=by
 obtain ⟨k,g,st,ls,LS,R,B,vI,ids,vL,Ms,hk,a,b,c,e,f⟩:=h
 refine (a.crash hk vk bs lack hvb hbs).mono ?_
 rintro e1 w' ⟨he,g',st',S,ht,hK⟩
 refine ⟨he,k,g',st',S,LS,R,B,vI,ids,vL,Ms,hk,hK,b.new ht.chg (fun q hq=>c q hq),fun q hq x=>?_,e,f⟩
 rcases ht.fp q x with y|y
 ·exact c q hq y
 ·have:=b.rf.lt hq;omega
def XJ (w0 w:World) (d tb rb n en:Nat) (t:TapeM):Prop:=
 ∃ k g st m j LA LS R B vI ids vL Ms,k≤70∧CrX w0 w d k tb t g st m j LA LS R∧RefJ w0 w rb R B vI ids vL Ms∧(∀ q,RefS rb vI vL q→Off tb t g q)∧n=(recI LA).length∧en=(bytesI LA).length
theorem KJ.open_ {w0 w:World} {d rb sy mn:Nat} (h:KJ w0 w d rb sy mn) :
 Calls Tryz.prog 7 #[.pointer (some ⟨d,0,none⟩)] w fun e w'=>∃ tb t n en,e = .returned (.tuple #[.pointer (some ⟨tb,0,none⟩),.int .i64 0])∧XJ w0 w' d tb rb n en t∧sy≤n∧n≤mn∧t.ids.length=n:=by
 obtain ⟨k,g,st,S,LS,R,B,vI,ids,vL,Ms,hk,a,b,c,e,f⟩:=h
 obtain ⟨LA,hO⟩:=a.open_ hk
 refine hO.mono ?_
 rintro e1 w' ⟨tb,t,g',st',m',j',he,_,hkp,hch,hX⟩
 obtain ⟨r,hr⟩:=hX.syn
 obtain ⟨r2,hr2⟩:=hX.pre
 obtain ⟨_,_,fc,_⟩:=build_facts _ R rfl hX.gd
 refine ⟨tb,t,_,_,he,⟨k,g',st',m',j',LA,LS,R,B,vI,ids,vL,Ms,hk,hX,b.new hch (fun q hq=>c q hq),fun q hq=>(hkp.2 q (b.rf.lt hq) (c q hq)).2,rfl,rfl⟩,?_,?_,?_⟩
 ·rw [e,hr,recI_app,List.length_append];omega
 ·rw [f,←fc,hr2,recI_app,List.length_append];omega
 ·rw [hX.ti.tn.ids,List.length_map,←recI_len]
theorem XJ.new {w0 w w':World} {d tb rb n en:Nat} {t:TapeM} (h:XJ w0 w d tb rb n en t) (hc:Chg (fun _=>False) w w'):XJ w0 w' d tb rb n en t:=by
 obtain ⟨k,g,st,m,j,LA,LS,R,B,vI,ids,vL,Ms,hk,a,b,c,e⟩:=h
 exact ⟨k,g,st,m,j,LA,LS,R,B,vI,ids,vL,Ms,hk,{ a with ti:=a.ti.new hc },b.new hc (fun _ _ x=>x),c,e⟩
theorem notes_pos {p:Nat} {l:ItL}:∀ x∈(notesI p l).map (·.1),0≤x:=by
 intro x hx
 obtain ⟨k,hk⟩:=List.mem_iff_getElem?.1 hx
 rw [List.getElem?_map] at hk
 obtain ⟨y,hy,rfl⟩:=Option.map_eq_some_iff.1 hk
 obtain ⟨q1,M,bs,q2,_,_,e,_⟩:=notesI_nth (List.getElem?_eq_some_iff.1 hy).1
 rw [hy] at e
 have:=Option.some.inj e
 rw [this]
 exact Int.natCast_nonneg _
theorem tids0 {w0 w:World} {tb d:Nat} {t:TapeM} (h:TapeAt w0 w tb d t) {LA:ItL} (hn:TapeN t (notesI 0 LA)) (hla:LaidAt 0 LA) (hl:t.ids.length≤1000) :
 Calls Tryz.prog 14 #[.pointer (some ⟨tb,0,none⟩),.int .i64 0] w (IntsTo w t.ids):=by
 have hs:t.ids.Pairwise (· < ·):=by rw [hn.ids];exact notesI_sorted hla
 have:=tids_any h (hs.imp (fun h=>Int.le_of_lt h)) (by omega) 0
 rw [lowN_zero (by rw [hn.ids];exact notes_pos),List.drop_zero] at this
 exact this
theorem XJ.ids {w0 w:World} {d tb rb n en:Nat} {t:TapeM} (h:XJ w0 w d tb rb n en t) :
 Calls Tryz.prog 14 #[.pointer (some ⟨tb,0,none⟩),.int .i64 0] w (IntsTo w t.ids):=by
 obtain ⟨k,g,st,m,j,LA,LS,R,B,vI,ids,vL,Ms,hk,a,b,c,e,f⟩:=h
 obtain ⟨r2,hr2⟩:=a.pre
 obtain ⟨_,_,fc,_⟩:=build_facts _ R rfl a.gd
 have hrl:=a.rl
 refine tids0 a.ti.tg.tape (LA:=LA) (by have:=a.ti.tn;rwa [Nat.mul_zero] at this) a.ti.la ?_
 rw [a.ti.tn.ids,List.length_map,←recI_len]
 have:(recI (buildL R)).length=R.length:=by rw [fc]
 rw [hr2,recI_app,List.length_append] at this
 omega
theorem XJ.end_ {w0 w:World} {d tb rb n en:Nat} {t:TapeM} (h:XJ w0 w d tb rb n en t) :
 Calls Tryz.prog 15 #[.pointer (some ⟨tb,0,none⟩)] w fun e w'=>e = .returned (.int .i64 (en:Int))∧w=w':=by
 obtain ⟨k,g,st,m,j,LA,LS,R,B,vI,ids,vL,Ms,hk,a,b,c,e,f⟩:=h
 have:=tend_any a.ti.tg
 rw [a.ti.rc.row.end_,show 1024*0+(bytesI LA).length=en by rw [f];omega] at this
 exact this
def YJ (w0 w:World) (d tb rb n en bl:Nat) (t:TapeM):Prop:=
 ∃ k g st m j LA LS R B vI ids vL Ms,k≤70∧CrX w0 w d k tb t g st m j LA LS R∧RefJ w0 w rb (R.take n) B vI ids vL Ms∧(∀ q,RefS rb vI vL q→Off tb t g q)∧n=(recI LA).length∧en=(bytesI LA).length∧BegI R LA n∧bl=B.size∧ids=t.ids
theorem notes_fill {L:ItL} {x:MsgM×List UInt8} (hk:x.1.kind=0):notesI 0 (L ++ [x])=notesI 0 L:=by
 rw [notesI_app]
 have:notesI (0+(bytesI L).length) [x]=[]:=by
  show (if x.1.kind == 0 then [] else _) ++ []=[]
  rw [if_pos (by simp [hk]),List.append_nil]
 rw [this,List.append_nil]
theorem beg_k {R:List MsgM} {LA:ItL} {k:Nat} (h:BegI R LA k):k=(recI LA).length:=by
 obtain ⟨a,b,_⟩:=h
 rw [b,List.length_take];omega
theorem beg_notes {R:List MsgM} {LA:ItL} {n:Nat} (h:BegI R LA n):notesI 0 LA=notesI 0 (buildL (R.take n)):=by
 obtain ⟨_,_,h|⟨x,hk,h,_⟩⟩:=h
 ·rw [h]
 ·rw [h,notes_fill hk]
theorem beg_len {R:List MsgM} {LA:ItL} {n:Nat} (h:BegI R LA n):(bytesI LA).length=(bytesI (buildL (R.take n))).length∨((bytesI (buildL (R.take n))).length<(bytesI LA).length∧(bytesI LA).length % 1024=0):=by
 obtain ⟨_,_,h|⟨x,hk,h,h2,h3⟩⟩:=h
 ·left;rw [←h]
 ·right
  refine ⟨?_,h2⟩
  rw [h,bytesI_app,List.length_append]
  have:(bytesI [x]).length=x.2.length:=by simp [bytesI]
  have hx:x.2.length≠0:=fun e=>h3 (List.length_eq_zero_iff.1 e)
  omega
theorem XJ.cut {w0 w:World} {d tb rb n en:Nat} {t:TapeM} (h:XJ w0 w d tb rb n en t) :
 Calls Tryz.prog 16 #[.pointer (some ⟨rb,0,none⟩),.int .i64 (n:Int)] w fun e w'=>e = .returned (.tuple #[])∧∃ bl,YJ w0 w' d tb rb n en bl t:=by
 obtain ⟨k,g,st,m,j,LA,LS,R,B,vI,ids,vL,Ms,hk,a,b,c,e,f⟩:=h
 obtain ⟨r2,hr2⟩:=a.pre
 obtain ⟨k2,hB⟩:=beg_of _ R rfl a.gd LA r2 hr2
 have hkn:=beg_k hB
 rw [←e] at hkn
 subst hkn
 have hrl:=a.rl
 refine (rcut_any b a.ti.tg.row.chg (by omega) k2 hB.1).mono ?_
 rintro e1 w' ⟨he,B',vI',ids',vL',hJ⟩
 have hlow:=b.low rb (.inl rfl)
 have hoff:∀ q,RefS rb vI' vL' q→Off tb t g q:=fun q hq=>by
  rcases hJ.own q hq with y|y
  ·exact y▸c rb (.inl rfl)
  ·refine ⟨fun x=>?_,fun x=>?_,fun x=>?_⟩
   ·have:=a.ti.tg.tape.lt q x;omega
   ·have:=a.ti.tg.row.row.lt;omega
   ·have:=a.ti.tg.row.disk.lt q x;omega
 have htg:=a.ti.tg.off hJ.chg (fun q hq=>by
  have hq:q=rb:=hq
  subst hq
  have:=c q (.inl rfl)
  exact ⟨this.1,this.2.1,this.2.2,hlow⟩)
 refine ⟨he,B'.size,k,g,st,m,j,LA,LS,R,B',vI',ids',vL',_,hk,{ a with ti:={ a.ti with tg:=htg }},hJ.rj,hoff,e,f,hB,rfl,?_⟩
 rw [hJ.rj.id,a.ti.tn.ids,Nat.mul_zero,beg_notes hB]
theorem YJ.facts {w0 w:World} {d tb rb n en bl:Nat} {t:TapeM} (h:YJ w0 w d tb rb n en bl t) :
 (∃ B vI vL,w.heap[rb]? = some (.cells #[.string B,.int .i64 0,vI,vL] 42 (0,0))∧B.size=bl)∧(en=bl∨(bl<en∧en % 1024=0))∧en≤200000∧Chg (fun _=>False) w0 w:=by
 obtain ⟨k,g,st,m,j,LA,LS,R,B,vI,ids,vL,Ms,hk,a,b,c,e,f,hB,hl,hi⟩:=h
 obtain ⟨r2,hr2⟩:=a.pre
 obtain ⟨_,_,_,fd⟩:=build_facts _ R rfl a.gd
 have hrl:=a.rl
 have hx:=congrArg (fun l=>(bytesI l).length) hr2
 simp only [bytesI_app,List.length_append] at hx
 refine ⟨⟨B,vI,vL,b.rf.at_,hl.symm⟩,?_,by omega,a.ti.tg.row.chg⟩
 have:=beg_len hB
 rw [←f,←b.bs,←hl] at this
 exact this
def ZJ (w0 w:World) (d tb rb tb2 n en bl:Nat) (t t2:TapeM):Prop:=
 ∃ k g st m j LA LS R B vI ids vL Ms,k≤70∧CrX w0 w d k tb2 t2 g st m j LA LS R∧TapeAt w0 w tb d t∧TapeN t (notesI 0 LA)∧RefJ w0 w rb (R.take n) B vI ids vL Ms∧(∀ q,RefS rb vI vL q→Off tb2 t2 g q)∧n=(recI LA).length∧en=(bytesI LA).length∧BegI R LA n∧bl=B.size∧ids=t.ids∧ids=t2.ids
theorem YJ.open_ {w0 w:World} {d tb rb n en bl:Nat} {t:TapeM} (h:YJ w0 w d tb rb n en bl t) :
 Calls Tryz.prog 7 #[.pointer (some ⟨d,0,none⟩)] w fun e w'=>∃ tb2 t2,e = .returned (.tuple #[.pointer (some ⟨tb2,0,none⟩),.int .i64 0])∧ZJ w0 w' d tb rb tb2 n en bl t t2:=by
 obtain ⟨k,g,st,m,j,LA,LS,R,B,vI,ids,vL,Ms,hk,a,b,c,e,f,hB,hl,hi⟩:=h
 refine (a.again hk).mono ?_
 rintro e1 w' ⟨tb2,t2,g',st',m',j',he,_,hkp,hch,hX⟩
 have htn:=a.ti.tn
 have htn2:=hX.ti.tn
 rw [Nat.mul_zero] at htn htn2
 have hta:=a.ti.tg.tape.chg hch (fun q hq x=>(a.ti.tg.out q hq).2 x)
 rw [a.dd] at hta
 exact ⟨tb2,t2,he,k,g',st',m',j',LA,LS,R,B,vI,ids,vL,Ms,hk,hX,hta,htn,b.new hch (fun q hq x=>(c q hq).2.2 x),fun q hq=>(hkp.2 q (b.rf.lt hq) (c q hq).2.2).2,e,f,hB,hl,hi,by rw [hi,htn.ids,htn2.ids]⟩
theorem ZJ.new {w0 w w':World} {d tb rb tb2 n en bl:Nat} {t t2:TapeM} (h:ZJ w0 w d tb rb tb2 n en bl t t2) (hc:Chg (fun _=>False) w w'):ZJ w0 w' d tb rb tb2 n en bl t t2:=by
 obtain ⟨k,g,st,m,j,LA,LS,R,B,vI,ids,vL,Ms,hk,a,ta,tn,b,c,r⟩:=h
 exact ⟨k,g,st,m,j,LA,LS,R,B,vI,ids,vL,Ms,hk,{ a with ti:=a.ti.new hc },ta.new hc,tn,b.new hc (fun _ _ x=>x),c,r⟩
theorem ZJ.chg {w0 w:World} {d tb rb tb2 n en bl:Nat} {t t2:TapeM} (h:ZJ w0 w d tb rb tb2 n en bl t t2):Chg (fun _=>False) w0 w:=by
 obtain ⟨k,g,st,m,j,LA,LS,R,B,vI,ids,vL,Ms,hk,a,_⟩:=h
 exact a.ti.tg.row.chg
theorem ZJ.same {w0 w:World} {d tb rb tb2 n en bl:Nat} {t t2:TapeM} (h:ZJ w0 w d tb rb tb2 n en bl t t2):t.ids=t2.ids∧t2.ids.length=n∧n≤100:=by
 obtain ⟨k,g,st,m,j,LA,LS,R,B,vI,ids,vL,Ms,hk,a,ta,tn,b,c,e,f,hB,hl,hi,hi2⟩:=h
 have:=a.rl
 have:=hB.1
 exact ⟨hi.symm.trans hi2,by rw [a.ti.tn.ids,List.length_map,←recI_len,←e],by omega⟩
theorem ZJ.end_ {w0 w:World} {d tb rb tb2 n en bl:Nat} {t t2:TapeM} (h:ZJ w0 w d tb rb tb2 n en bl t t2) :
 Calls Tryz.prog 15 #[.pointer (some ⟨tb2,0,none⟩)] w fun e w'=>e = .returned (.int .i64 (en:Int))∧w=w':=by
 obtain ⟨k,g,st,m,j,LA,LS,R,B,vI,ids,vL,Ms,hk,a,ta,tn,b,c,e,f,_⟩:=h
 have:=tend_any a.ti.tg
 rw [a.ti.rc.row.end_,show 1024*0+(bytesI LA).length=en by rw [f];omega] at this
 exact this
theorem ZJ.ids {w0 w:World} {d tb rb tb2 n en bl:Nat} {t t2:TapeM} (h:ZJ w0 w d tb rb tb2 n en bl t t2) :
 Calls Tryz.prog 14 #[.pointer (some ⟨tb,0,none⟩),.int .i64 0] w (IntsTo w t2.ids)∧Calls Tryz.prog 14 #[.pointer (some ⟨tb2,0,none⟩),.int .i64 0] w (IntsTo w t2.ids):=by
 obtain ⟨e1,e2,e3⟩:=h.same
 obtain ⟨k,g,st,m,j,LA,LS,R,B,vI,ids,vL,Ms,hk,a,ta,tn,b,c,e,f,_⟩:=h
 have htn2:=a.ti.tn
 rw [Nat.mul_zero] at htn2
 refine ⟨?_,tids0 a.ti.tg.tape htn2 a.ti.la (by omega)⟩
 rw [←e1]
 exact tids0 ta tn a.ti.la (by rw [e1];omega)
theorem ZJ.waits {w0 w:World} {d tb rb tb2 n en bl:Nat} {t t2:TapeM} (h:ZJ w0 w d tb rb tb2 n en bl t t2) :
 Calls Tryz.prog 18 #[.pointer (some ⟨d,0,none⟩)] w fun e w'=>e = .returned (.int .i64 0)∧Below w.heap.size w w':=by
 obtain ⟨k,g,st,m,j,LA,LS,R,B,vI,ids,vL,Ms,hk,a,_⟩:=h
 have hw:=now_waits a.now
 have:=waits_any g st w a.ti.tg.row.disk (by rw [hw];decide)
 rw [hw,a.dd] at this
 exact this
theorem ZJ.read {w0 w:World} {d tb rb tb2 n en bl:Nat} {t t2:TapeM} (h:ZJ w0 w d tb rb tb2 n en bl t t2) (i:Nat) (hi:i<n) :
 ∃ (M:MsgM) (vk:Value) (B:ByteArray) (vI vL:Value) (ids:List Int) (Ms:ML),Calls Tryz.prog 19 #[.pointer (some ⟨tb2,0,none⟩),.int .i64 (t2.ids.getD i 0)] w (ReadTo M 0 w)∧RefT w rb B 0 vI ids vL Ms∧ids=t2.ids∧Ms[i]? = some (M,vk)∧Strs w0 0 vk M.keys∧M.keys.length≤10000:=by
 obtain ⟨_,e2,_⟩:=h.same
 obtain ⟨k,g,st,m,j,LA,LS,R,B,vI,ids,vL,Ms,hk,a,ta,tn,b,c,e,f,hB,hl,hi1,hi2⟩:=h
 have hids:=a.ti.tn.ids
 rw [Nat.mul_zero] at hids
 have hlt:i<(notesI 0 LA).length:=by rw [←recI_len,←e];exact hi
 obtain ⟨q1,M,bs,q2,hq,hkd,hnt,hrc⟩:=notesI_nth hlt
 have hgi:t2.ids.getD i 0=((1024*0+(bytesI q1).length:Nat):Int):=by
  rw [hids,List.getD_eq_getElem?_getD,List.getElem?_map,hnt]
  simp
 have hmr:Ms.map (·.1)=recI LA:=by rw [b.ms,hB.2.1]
 have hMi:∃ vk,Ms[i]? = some (M,vk):=by
  have h1:(Ms.map (·.1))[i]? = some M:=by rw [hmr];exact hrc
  rw [List.getElem?_map] at h1
  obtain ⟨p,hp,hpe⟩:=Option.map_eq_some_iff.1 h1
  obtain ⟨p1,p2⟩:=p
  exact ⟨p2,by rw [hp,←hpe]⟩
 obtain ⟨vk,hMv⟩:=hMi
 have hti:=a.ti
 rw [hq] at hti
 have hla:=hti.la
 have hit:=((laidAt_app.1 hla).2).1.1
 have hbl:(bytesI q1).length≤9000000:=by
  obtain ⟨r2,hr2⟩:=a.pre
  obtain ⟨_,_,_,fd⟩:=build_facts _ R rfl a.gd
  have hx:=congrArg (fun l=>(bytesI l).length) hr2
  rw [hq] at hx
  simp only [bytesI_app,List.length_append] at hx
  have:=a.rl
  omega
 refine ⟨M,vk,B,vI,vL,ids,Ms,?_,b.rf,hi2,hMv,b.strs _ (List.mem_of_getElem? hMv),keys_few hit hkd⟩
 rw [hgi]
 exact hti.read hkd (by omega)
theorem ZJ.ref {w0 w:World} {d tb rb tb2 n en bl:Nat} {t t2:TapeM} (h:ZJ w0 w d tb rb tb2 n en bl t t2):(∃ B vI vL,w.heap[rb]? = some (.cells #[.string B,.int .i64 0,vI,vL] 42 (0,0))∧B.size=bl)∧(en=bl∨(bl<en∧en % 1024=0)):=by
 obtain ⟨k,g,st,m,j,LA,LS,R,B,vI,ids,vL,Ms,hk,a,ta,tn,b,c,e,f,hB,hl,hi1,hi2⟩:=h
 refine ⟨⟨B,vI,vL,b.rf.at_,hl.symm⟩,?_⟩
 have:=beg_len hB
 rw [←f,←b.bs,←hl] at this
 exact this
def WJ (w0 w:World) (rb tb2 bl:Nat) (M:MsgM) (id:Int):Prop:=
 Chg (fun _=>False) w0 w∧(∀ W,Chg (fun _=>False) w W→Calls Tryz.prog 19 #[.pointer (some ⟨tb2,0,none⟩),.int .i64 id] W (ReadTo M 0 W))∧∃ R B vI ids vL Ms,R.length≤100∧RefJ w0 w rb R B vI ids vL Ms∧B.size=bl∧GoodM M
theorem ZJ.step {w0 w:World} {d tb rb tb2 n en bl:Nat} {t t2:TapeM} (h:ZJ w0 w d tb rb tb2 n en bl t t2) {M:MsgM} {vk:Value} (hks:Strs w 0 vk M.keys) (hcap:CapOk vk) (hs:Sound M) :
 ∃ c:Nat,Calls Tryz.prog 10 #[.pointer (some ⟨rb,0,none⟩),M.val vk] w (fun e w'=>e = .returned (.int .i64 (c:Nat))∧Below w.heap.size w w') ∧
  (c≠0→∀ W,Below w.heap.size w W→Calls Tryz.prog 11 #[.pointer (some ⟨tb2,0,none⟩),M.val vk] W fun e w'=>
   ∃ id:Int,e = .returned (.tuple #[.int .i64 id,.int .i64 0])∧WJ w0 w' rb tb2 bl M id∧(en=bl→id=((bl+fillR bl M:Nat):Int))∧(en≠bl→id=(en:Int))):=by
 have hrel:=h.ref.2
 obtain ⟨k,g,st,m,j,LA,LS,R,B,vI,ids,vL,Ms,hk,a,ta,tn,b,c,e,f,hB,hl,hi1,hi2⟩:=h
 obtain ⟨fa,fb,fc,fd⟩:=build_facts _ (R.take n) rfl (fun x hx=>a.gd x (List.mem_of_mem_take hx))
 obtain ⟨ga,gb,gc,gd⟩:=build_facts _ R rfl a.gd
 have hrl:=a.rl
 have hbs:=b.bs
 have htl:(R.take n).length≤70:=by rw [List.length_take];omega
 refine ⟨costR B.size M,rcost_any b.rf.ref (by omega) M vk hks hs,fun hc W hW=>?_⟩
 have hok:(bytesI LA).length % 1024≤1021:=by
  rcases beg_len hB with x|⟨_,x⟩
  ·rw [x];exact fb
  ·omega
 obtain ⟨r2,hr2⟩:=a.pre
 have hx:=congrArg (fun l=>(bytesI l).length) hr2
 simp only [bytesI_app,List.length_append] at hx
 have hcn:Chg (fun _=>False) w W:=Chg.of_below hW
 have hti:=a.ti.new hcn
 have hil:t2.ids.length≤100:=by
  rw [a.ti.tn.ids,List.length_map,←recI_len,←e]
  have:=hB.1;omega
 have hml:t2.M.length≤100:=by
  have:=a.ti.tn.ml
  rw [←recI_len,←e] at this
  have:=hB.1;omega
 have hsz:=a.siz
 have hcp:=a.cap
 obtain ⟨F,S,E,hF,hA⟩:=app_gen hti.tg hti.rc hti.hd M vk (hks.below hW (Nat.le_refl _)) hcap hs hok (by omega) (by omega) (by omega) (by omega) (by omega)
 obtain ⟨F2,S2,E2,hF2,hcost⟩:=qlaid_cost (i0:=0) hok M
 rw [hF] at hF2
 injection hF2 with x1 x2
 injection x2 with x2 x3
 subst x1 x2 x3
 have hc0:∀ b:Nat,costR b M=0→costR B.size M=0:=fun b hb=>by
  unfold costR at hb ⊢
  split
  ·rename_i hg
   rw [if_pos hg] at hb
   have hp3:3≤((putO M).getD []).length:=by
    cases ho:putO M with
    | none=>
     exfalso
     unfold putO at ho
     rw [if_pos hg.1,if_pos hg.2] at ho
     cases ho
    | some bs=>exact (putO_len hg.2 ho).1
   split at hb<;>omega
  ·rfl
 rcases hA with ⟨_,f0,s0,_⟩|⟨_,s3,s327,f1024,hfit,hok2,⟨bs,hp,hS,hkd,hFb⟩,hA⟩
 ·exact absurd (hc0 (1024*0+(bytesI LA).length) (by omega)) hc
 ·obtain ⟨hgM,hbsM⟩:=goodM_of hp hkd
  have hFs:F.size=(tfill (roomT 0 (bytesI LA)) bs.length).length:=by rw [hFb,sizeL]
  refine hA.mono ?_
  rintro e1 w' ⟨rfl,hto⟩
  obtain ⟨t',g',m',st',j',hT',hd',hsy,hsz',hcap',hchg,hfp,hrb,hids,hft⟩:=hti.app hok hkd hp hFb hS hto
  obtain ⟨l3,l327⟩:=putO_len hkd hp
  refine ⟨_,rfl,⟨hT'.tg.row.chg,fun W2 hW2=>?_,R.take n,B,vI,ids,vL,Ms,by omega,?_,hl.symm,hgM⟩,fun he=>?_,fun hne=>?_⟩
  ·have hT2:=hT'.new hW2
   have hform:∃ q1,LA ++ itemsA (roomT 0 (bytesI LA)) M bs=q1 ++ (M,bs) :: []∧(bytesI q1).length=(bytesI LA).length+F.size:=by
    unfold itemsA
    split
    ·rename_i ht
     exact ⟨LA,by simp,by rw [hFs,ht];rfl⟩
    ·refine ⟨LA ++ [(fillM (roomT 0 (bytesI LA)),tfill (roomT 0 (bytesI LA)) bs.length)],by simp,?_⟩
     rw [bytesI_app,List.length_append,hFs]
     simp [bytesI]
   obtain ⟨q1,hq,hql⟩:=hform
   rw [hq] at hT2
   have:=hT2.read hkd (by omega)
   rw [hql] at this
   rw [show 1024*0+(bytesI LA).length+F.size=1024*0+((bytesI LA).length+F.size) by omega]
   exact this
  ·exact (b.new hcn (fun _ _ x=>x)).new hchg (fun q hq x=>by
    have ho:=c q hq
    rcases x with x|x|x
    ·exact ho.1 x
    ·exact ho.2.1 x
    ·exact ho.2.2 x)
  ·have hbl2:(bytesI LA).length=(bytesI (buildL (R.take n))).length:=by rw [←f,he,hl,hbs]
   obtain ⟨_,_,_,_,_,_,_,a8⟩:=add_facts hgM fa fb
   rw [hl,hbs,a8,hbsM]
   have hrm:roomT 0 (bytesI LA)=roomT 0 (bytesI (buildL (R.take n))):=by rw [roomT_zero,roomT_zero,hbl2]
   rw [hFs,hrm,Nat.mul_zero,Nat.zero_add,hbl2]
  ·have h0:en % 1024=0:=by
    rcases hrel with x|⟨_,x⟩
    ·exact absurd x hne
    ·exact x
   have hrm:roomT 0 (bytesI LA)=1024:=by rw [roomT_zero,←f,h0]
   have hF0:F.size=0:=by
    rw [hFs,hrm]
    unfold tfill
    rw [if_pos (by right;omega)]
    rfl
   rw [hF0,f]
   congr 1
   omega
theorem strs_over {w w':World} {B:Nat} {v:Value} {ts:List ByteArray} (h:Strs w B v ts) (hc:Chg (fun q=>q<B) w w'):Strs w' B v ts:=by
 obtain ⟨a,cap,rfl,h⟩:=h
 refine ⟨a,cap,rfl,?_⟩
 rcases h with h|⟨b,o,rfl,hb0,h⟩
 ·exact .inl h
 ·exact .inr ⟨b,o,rfl,hb0,fun i hi=>hc.cell (h i hi) (fun x=>by have:b<B:=x;omega)⟩
theorem WJ.app {w0 w1 w:World} {rb tb2 bl:Nat} {M:MsgM} {id:Int} (h:WJ w0 w1 rb tb2 bl M id) (hw:Chg (fun _=>False) w1 w) {vk:Value} (hks:Strs w0 0 vk M.keys) (hs:Sound M) :
 Calls Tryz.prog 12 #[.pointer (some ⟨rb,0,none⟩),M.val vk] w fun e w'=>e = .returned (.int .i64 ((bl+fillR bl M:Nat):Int))∧Chg (fun _=>False) w0 w'∧Chg (fun q=>q<w1.heap.size) w w':=by
 obtain ⟨hc,_,R,B,vI,ids,vL,Ms,hR,b0,hl,hg⟩:=h
 have b:=b0.new hw (fun _ _ x=>x)
 refine (b.app (by omega) (hc.trans hw (fun _ _ x=>x)) hks hs hg).mono ?_
 rintro e w' ⟨he,B',vI',ids',vL',ht,hr⟩
 rw [hl] at he
 exact ⟨he,(hc.trans hw (fun _ _ x=>x)).trans ht.chg (fun i hi x=>by have:=b.low i x;omega),ht.chg.wide (fun i _ x=>b0.rf.lt x)⟩
theorem WJ.ref {w0 w:World} {rb tb2 bl:Nat} {M:MsgM} {id:Int} (h:WJ w0 w rb tb2 bl M id):∃ B vI vL,w.heap[rb]? = some (.cells #[.string B,.int .i64 0,vI,vL] 42 (0,0))∧B.size=bl:=by
 obtain ⟨hc,_,R,B,vI,ids,vL,Ms,hR,b,hl,hg⟩:=h
 exact ⟨B,vI,vL,b.rf.at_,hl⟩
theorem WJ.new {w0 w w':World} {rb tb2 bl:Nat} {M:MsgM} {id:Int} (h:WJ w0 w rb tb2 bl M id) (hc:Chg (fun _=>False) w w'):WJ w0 w' rb tb2 bl M id:=by
 obtain ⟨hc0,hr,R,B,vI,ids,vL,Ms,hR,b,hl,hg⟩:=h
 exact ⟨hc0.trans hc (fun _ _ x=>x),fun W hW=>hr W (hc.trans hW (fun _ _ x=>x)),R,B,vI,ids,vL,Ms,hR,b.new hc (fun _ _ x=>x),hl,hg⟩
end Go.Proofs.YtnemlgfldfedpaaGreatDoor
