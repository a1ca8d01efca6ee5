/- A part. -/
import Derived.Test.YtajmeimjaapagaaGreatDoorDor23
import Derived.Test.YtajmeimjaapagaaGreatDoorDor49
set_option linter.unusedVariables false
set_option linter.unusedSimpArgs false
namespace Go.Proofs.YtajmeimjaapagaaGreatDoor
open Go.RowKit Go.Deep
open Go.Sort (grow putRow Holds putCells)
def menc (m:MkM):List Value:=[.int .i64 m.due,.int .i64 m.rc,.int .i64 m.ah,.int .i64 m.ps]
instance:Inhabited MkM:=⟨⟨0,0,0,0⟩⟩
theorem ginfo_parts {t:TypeId} {z:Value} {s b:Nat} (h:(Tryz.prog.info? t).map (fun i=>(i.zero,i.size,i.bytes))=some (some z,s,b)):∃ i,Tryz.prog.info? t=some i∧i.zero=some z∧i.size=s∧i.bytes=b:=by
 cases hi:Tryz.prog.info? t with
 | none=>rw [hi] at h;cases h
 | some i=>
  rw [hi] at h
  simp only [Option.map_some,Option.some.injEq,Prod.mk.injEq] at h
  exact ⟨i,rfl,h.1,h.2.1,h.2.2⟩
theorem info_mark:(Tryz.prog.info? 89).map (fun i=>(i.zero,i.size,i.bytes))=some (some (.agg #[.int .i64 0,.int .i64 0,.int .i64 0,.int .i64 0]),4,32):=by kernel_rfl
theorem menc_len (m:MkM):(menc m).length=4:=rfl
theorem menc_one (m:MkM):∀ u∈menc m,u.oneCell'=true:=by
 intro u hu
 simp [menc] at hu
 rcases hu with rfl|rfl|rfl|rfl<;>rfl
theorem layM:LayE 89 144 4 menc where
 under:=Tryz.underlying144
 info:=by
  obtain ⟨i,h1,h2,h3,h4⟩:=ginfo_parts info_mark
  exact ⟨i,_,h1,h2,h3,rfl,by omega⟩
 len:=menc_len
 one:=menc_one
 pos:=by decide
abbrev MRow (w:World) (v:Value) (l:List MkM):Prop:=GRow 89 4 menc w v l
theorem agg_mark (w:World):(isAgg 89).run Tryz.prog w = .ok true w:=by kernel_rfl
theorem size_mark (w:World):(Go.sizeOf 89).run Tryz.prog w = .ok 4 w:=by kernel_rfl
theorem flatM_list (l:List MkM):(Go.Sort.flatK menc 4 l.toArray).toList=l.flatMap menc:=by
 apply List.ext_getElem?
 intro j
 by_cases hj:j<l.length*4
 ·have h1:j / 4<l.length:=by omega
  have hx:l[j / 4]? = some l[j / 4]:=List.getElem?_eq_getElem h1
  have e1:(l.flatMap menc)[j]? = (menc l[j / 4])[j % 4]?:=by
   have:=gflat_get (enc:=menc) (k:=4) menc_len l (j / 4) (j % 4) (Nat.mod_lt _ (by decide))
   rw [hx,show j / 4*4+j % 4=j by omega] at this
   exact this
  have h4:j % 4<(menc l[j / 4]).length:=by rw [menc_len];omega
  rw [e1,Array.getElem?_toList,List.getElem?_eq_getElem h4]
  unfold Go.Sort.flatK
  have hz:j<((Array.range (l.toArray.size*4)).map fun t=>(menc (l.toArray[t / 4]!))[t % 4]!).size:=by simpa using hj
  rw [Array.getElem?_eq_getElem hz]
  simp only [Array.getElem_map,Array.getElem_range]
  have h1':j / 4<l.toArray.size:=by simpa using h1
  rw [getElem!_pos l.toArray (j / 4) h1',List.getElem_toArray,getElem!_pos (menc l[j / 4]) (j % 4) h4]
 ·rw [List.getElem?_eq_none (by rw [Array.length_toList,Go.Sort.size_flatK];simp;omega),List.getElem?_eq_none (by rw [gflat_len menc_len];omega)]
theorem rev_any (v:Value) (l:List MkM) (w:World) (h:MRow w v l) :
 Calls Tryz.prog 209 #[v] w fun e w'=>e = .returned (.tuple #[])∧MRow w' v l.reverse∧w.grownBy w' v.ownBlock:=by
 rcases h.2 with ⟨rfl,h0⟩|⟨g1,cap,cur,rfl,hbase,hb,h1,h2,h3,h4⟩
 ·obtain rfl:l=[]:=List.length_eq_zero_iff.1 h0
  refine (AnyQ.slices_Reverse_empty Tryz.revM none 0 w).mono ?_
  rintro e w' ⟨rfl,rfl⟩
  exact ⟨rfl,GRow.nil _,grownBy_refl _ _⟩
 ·have hcell:∀ j,j<l.length*4→cur[j]? = (l.flatMap menc)[j]?:=fun j hj=>by
   have e1:(cur.toList.take (l.length*4))[j]? = (l.flatMap menc)[j]?:=by rw [h4]
   rwa [List.getElem?_take,if_pos hj,Array.getElem?_toList] at e1
  have hH:Go.Sort.HoldsK menc 4 w g1 0 l.toArray:=by
   intro j hj
   have hj':j<l.length*4:=by simpa using hj
   refine ⟨?_,by simp [World.frozen?,hb]⟩
   have e1:(Go.Sort.flatK menc 4 l.toArray)[j]? = (l.flatMap menc)[j]?:=by rw [←flatM_list l,Array.getElem?_toList]
   rw [←hcell j hj',Array.getElem?_eq_getElem (by simpa using hj')] at e1
   rw [getElem!_pos _ j (by simpa using hj')]
   simp only [World.cell?,hb,Nat.zero_add]
   exact e1.symm
  have hsz0:l.toArray.size≤9223372036854775807:=by
   have:l.toArray.size=l.length:=by simp
   unfold maxLen at h2
   omega
  have hcon:=AnyQ.slices_Reverse Tryz.revM 4 agg_mark size_mark menc menc_len menc_one g1 0 cap l.toArray w hH hsz0
  rw [show l.toArray.size=l.length by simp] at hcon
  refine hcon.mono ?_
  rintro e w' ⟨rfl,n,rfl⟩
  have hfl:(Go.Sort.flatK menc 4 l.toArray.reverse).toList=l.reverse.flatMap menc:=by
   have:=flatM_list l.reverse
   rwa [←List.reverse_toArray] at this
  have hheap:(Go.Sort.putRowK menc 4 (Go.Sort.ahead w n) g1 0 l.toArray.reverse).heap[g1]? = some (.cells (putCells id 0 (Go.Sort.flatK menc 4 l.toArray.reverse) cur) 89 (0,0)):=by
   unfold Go.Sort.putRowK
   simp [putRow,Go.Sort.mapBlock,Go.Sort.ahead,Array.getElem?_modify,hb,Go.Sort.onCells]
  have hsz:(Go.Sort.flatK menc 4 l.toArray.reverse).size=l.length*4:=by simp
  refine ⟨rfl,?_,?_⟩
  ·unfold MRow GRow
   rw [List.length_reverse]
   refine ⟨by rw [gflat_len menc_len,List.length_reverse],.inr ⟨g1,cap,_,rfl,hbase,hheap,h1,h2,by simp [putCells,h3],?_⟩⟩
   rw [←hfl]
   apply List.ext_getElem?
   intro j
   by_cases hj:j<l.length*4
   ·have hjc:j<cur.size:=by rw [h3];exact Nat.lt_of_lt_of_le hj (Nat.mul_le_mul_right _ h1)
    have hjd:j<(Go.Sort.flatK menc 4 l.toArray.reverse).size:=by rw [hsz];exact hj
    rw [List.getElem?_take_of_lt hj,Array.getElem?_toList,Array.getElem?_toList]
    simp [putCells,hj,hjc]
   ·rw [List.getElem?_take_eq_none (by omega),List.getElem?_eq_none (by rw [Array.length_toList,hsz];omega)]
  ·refine ⟨rfl,rfl,rfl,by simp [Go.Sort.putRowK],fun k hk hne=>?_⟩
   unfold Go.Sort.putRowK
   have:g1≠k:=fun e=>hne (by rw [e];rfl)
   simp [putRow,Go.Sort.mapBlock,Go.Sort.ahead,Array.getElem?_modify,this]
end Go.Proofs.YtajmeimjaapagaaGreatDoor
