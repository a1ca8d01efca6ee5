/- A part. -/
import Derived.Test.YtnemlgfldfedpaaGreatDoorTcr44
set_option linter.unusedVariables false
set_option linter.unusedSimpArgs false
namespace Go.Proofs.YtnemlgfldfedpaaGreatDoor
open Go.RowKit Go.Deep
theorem find_nodup {c:FileM} {a:ByteArray}:∀ {fs:List (ByteArray×FileM)},(fs.map (·.1)).Nodup→(a,c)∈fs→(fs.find? fun p=>decide (p.1=a)).map (·.2)=some c
 | [],_,h=>by cases h
 | p :: fs,hn,h=>by
  rw [List.map_cons,List.nodup_cons] at hn
  rcases List.mem_cons.1 h with e|e
  ·rw [←e,List.find?_cons_of_pos (by simp)];rfl
  ·rw [List.find?_cons_of_neg (by
    simp only [decide_eq_true_eq]
    intro hp
    exact hn.1 (hp▸List.mem_map_of_mem (f:=fun p:ByteArray×FileM=>p.1) e))]
   exact find_nodup hn.2 e
theorem segsK_of:∀ {S:List (ItL×ItL×List UInt8)},(∀ i x,S[i]? = some x→SegK (decide (i+1=S.length)) x.1 x.2.1 x.2.2)→SegsK S
 | [],_=>trivial
 | x :: r,h=>by
  refine ⟨?_,segsK_of fun i y hy=>?_⟩
  ·have:=h 0 x rfl
   have e:decide (0+1=(x :: r).length)=r.isEmpty:=by cases r<;>simp
   rw [e] at this
   exact this
  ·have:=h (i+1) y hy
   have e:decide (i+1+1=(x :: r).length)=decide (i+1=r.length):=by simp
   rw [e] at this
   exact this
theorem syncK_of:∀ {S:List (ItL×ItL×List UInt8)} {LS:ItL},SyncL (S.map fun x=>(x.1,x.2.1)) LS→SyncK S LS
 | [],LS,h=>h
 | x :: r,LS,h=>by
  rcases h with ⟨a,LS',b,c⟩|h
  ·exact .inl ⟨a,LS',b,syncK_of c⟩
  ·exact .inr h
theorem PcS.crash {n:Nat} {w:World} {g:Gh} {m:RowM} {st:St} {ws:List WaitM} {ls:List (List (MsgM×List UInt8)×List (MsgM×List UInt8))} (h:PcS m st ls) (hd:DiskAt w g st) (hg:Good n st) (hp:ws.Perm (waitsOf g.es)) (hs:Sorted ws) (bs:List Bool) (lack:Int)
 (hl:∀ i x,ls[i]? = some x→(bytesI (x.1 ++ x.2)).length≤1024∧(i+1≠ls.length→(bytesI (x.1 ++ x.2)).length=1024)) :
 ∃ S:List (ItL×ItL×List UInt8),(S.map fun x=>(x.1,x.2.1))=ls∧SegsK S∧(∀ x∈S,x.2.2.length≤1024)∧∀ i x,S[i]? = some x→∃ f,(crashS st (imgs (g.es.map skel) (cutLast (keepL ws bs) lack))).find (nameB tH (1024*i))=some f∧f.bytes=x.2.2:=by
 have hnames:(crashS st (imgs (g.es.map skel) (cutLast (keepL ws bs) lack))).fs.map (·.1)=st.fs.map (·.1):=by
  show ((imgs (g.es.map skel) (cutLast (keepL ws bs) lack)).map fun p=>(p.1,loseF p.2.2)).map (·.1)=_
  rw [List.map_map]
  exact sk_names hd _
 have hone:∀ i x,ls[i]? = some x→∃ c,SegK (decide (i+1=ls.length)) x.1 x.2 c∧∃ f,(crashS st (imgs (g.es.map skel) (cutLast (keepL ws bs) lack))).find (nameB tH (1024*i))=some f∧f.bytes=c:=fun i x hx=>by
  obtain ⟨f,hf,hpc⟩:=h.fs i x hx
  obtain ⟨e,he,hge,hef,hen⟩:=hd.found hf
  subst hef
  obtain ⟨c,hc,_,_,j,hj⟩:=crash_file hd hg hp hs bs lack he hpc.piece
  have hname:e.name=nameB tH (1024*i):=hen
  rw [hname] at hc
  obtain ⟨la,lb,k1,k2,k3,k4,k5⟩:=hpc.stop hj
  obtain ⟨z1,z2⟩:=hl i x hx
  rw [hpc.byt] at k3 k5
  exact ⟨c.bytes,⟨hpc.la,z1,fun hi=>z2 (by simpa using hi),la,lb,k1,k2,k3,k4,k5⟩,c,find_nodup (by rw [hnames];exact hg.names) hc,rfl⟩
 have hone2:∀ i,i<ls.length→∃ c,∀ x,ls[i]? = some x→SegK (decide (i+1=ls.length)) x.1 x.2 c∧∃ f,(crashS st (imgs (g.es.map skel) (cutLast (keepL ws bs) lack))).find (nameB tH (1024*i))=some f∧f.bytes=c:=fun i hi=>by
  obtain ⟨c,hc⟩:=hone i ls[i] (List.getElem?_eq_getElem hi)
  refine ⟨c,fun x hx=>?_⟩
  rw [List.getElem?_eq_getElem hi] at hx
  rw [←Option.some.inj hx]
  exact hc
 obtain ⟨C,hC⟩:∃ C:Nat→List UInt8,∀ i,i<ls.length→∀ x,ls[i]? = some x→SegK (decide (i+1=ls.length)) x.1 x.2 (C i)∧∃ f,(crashS st (imgs (g.es.map skel) (cutLast (keepL ws bs) lack))).find (nameB tH (1024*i))=some f∧f.bytes=C i:=
  choose_lt (n:=ls.length) (p:=fun i c=>∀ x,ls[i]? = some x→SegK (decide (i+1=ls.length)) x.1 x.2 c∧∃ f,(crashS st (imgs (g.es.map skel) (cutLast (keepL ws bs) lack))).find (nameB tH (1024*i))=some f∧f.bytes=c) hone2
 obtain ⟨S,hS⟩:∃ S:List (ItL×ItL×List UInt8),S=ls.mapIdx fun i x=>(x.1,x.2,C i):=⟨_,rfl⟩
 have hlen:S.length=ls.length:=by rw [hS,List.length_mapIdx]
 have hget:∀ i y,S[i]? = some y→∃ x,ls[i]? = some x∧y=(x.1,x.2,C i):=fun i y hy=>by
  rw [hS,List.getElem?_mapIdx] at hy
  obtain ⟨x,a,b⟩:=Option.map_eq_some_iff.1 hy
  exact ⟨x,a,b.symm⟩
 refine ⟨S,?_,segsK_of fun i y hy=>?_,fun y hy=>?_,fun i y hy=>?_⟩
 ·refine List.ext_getElem? fun i=>?_
  rw [List.getElem?_map,hS,List.getElem?_mapIdx]
  cases ls[i]?<;>rfl
 ·obtain ⟨x,a,rfl⟩:=hget i y hy
  rw [hlen]
  exact (hC i (List.getElem?_eq_some_iff.1 a).1 x a).1
 ·obtain ⟨i,hi⟩:=List.mem_iff_getElem?.1 hy
  obtain ⟨x,a,rfl⟩:=hget i y hi
  obtain ⟨k,_⟩:=hC i (List.getElem?_eq_some_iff.1 a).1 x a
  obtain ⟨_,_,_,_,q,_⟩:=k.stop
  have:=k.le
  dsimp only
  omega
 ·obtain ⟨x,a,rfl⟩:=hget i y hy
  exact (hC i (List.getElem?_eq_some_iff.1 a).1 x a).2
end Go.Proofs.YtnemlgfldfedpaaGreatDoor
