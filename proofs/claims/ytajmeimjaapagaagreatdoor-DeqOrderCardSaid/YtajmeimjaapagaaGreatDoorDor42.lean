/- A part. -/
import Derived.Sort.KeysCollected
import Derived.Test.YtajmeimjaapagaaGreatDoorDor41
set_option linter.unusedVariables false
set_option linter.unusedSimpArgs false
namespace Go.Proofs.YtajmeimjaapagaaGreatDoor
open Go.RowKit Go.Deep
def wNames (head:ByteArray) (st:St):List ByteArray:=(((st.fs.filter fun p=>Lib.hasPrefix p.1.data.toList head.data.toList).map fun p=>p.1.data.toList).mergeSort fun x y=>decide (x≤y)).map fun l=>⟨l.toArray⟩
theorem wNames_length (head:ByteArray) (st:St):(wNames head st).length≤st.fs.length:=by
 unfold wNames
 rw [List.length_map,List.length_mergeSort,List.length_map]
 exact List.length_filter_le _ _
theorem wNames_mem {head:ByteArray} {st:St} {nm:ByteArray} (h:nm∈wNames head st):∃ p∈st.fs,p.1=nm∧Lib.hasPrefix p.1.data.toList head.data.toList=true:=by
 unfold wNames at h
 obtain ⟨l,hl,rfl⟩:=List.mem_map.1 h
 rw [List.mem_mergeSort] at hl
 obtain ⟨p,hp,rfl⟩:=List.mem_map.1 hl
 exact ⟨p,(List.mem_filter.1 hp).1,by rw [Array.toArray_toList],(List.mem_filter.1 hp).2⟩
theorem wNames_of {head:ByteArray} {st:St} {p:ByteArray×FileM} (hp:p∈st.fs) (hh:Lib.hasPrefix p.1.data.toList head.data.toList=true):p.1∈wNames head st:=by
 unfold wNames
 refine List.mem_map.2 ⟨p.1.data.toList,?_,by rw [Array.toArray_toList]⟩
 rw [List.mem_mergeSort]
 exact List.mem_map.2 ⟨p,List.mem_filter.2 ⟨hp,hh⟩,rfl⟩
theorem wlist_any (g:Gh) (st:St) (head:ByteArray) (w:World) (h:DiskAt w g st) (hn:st.fs.length≤1099511627776) :
 Calls Tryz.prog 110 #[.pointer (some ⟨g.d,0,none⟩),.string head] w fun e w'=>∃ v,e = .returned v∧Strs w' w.heap.size v (wNames head st)∧Below w.heap.size w w':=by
 refine (list_any g st head w h hn).mono ?_
 rintro e w' ⟨v,vis,rfl,hp,ho,hb⟩
 refine ⟨v,rfl,?_,hb⟩
 have h2:(begins head vis).mergeSort (fun x y=>decide (x≤y))=((st.fs.filter fun p=>Lib.hasPrefix p.1.data.toList head.data.toList).map fun p=>p.1.data.toList).mergeSort fun x y=>decide (x≤y):=by
  refine mergeSort_of_perm ?_
  unfold begins
  rw [←h.fs,List.filter_map,List.map_map]
  exact (hp.filter _).map _
 have hl:(begins head vis).length=(wNames head st).length:=by
  unfold wNames
  rw [List.length_map,←h2,List.length_mergeSort]
 rw [h2,hl] at ho
 have he:(((st.fs.filter fun p=>Lib.hasPrefix p.1.data.toList head.data.toList).map fun p=>p.1.data.toList).mergeSort fun x y=>decide (x≤y)).map encStr=(wNames head st).map Value.string:=by
  unfold wNames
  rw [List.map_map]
  rfl
 rw [he] at ho
 rcases ho.2 with ⟨e1,h0⟩|⟨g',cap,cur,e1,hbs,hg,h3,h4,h5,h6⟩
 ·exact ⟨none,0,by rw [e1,h0],.inl (List.length_eq_zero_iff.1 h0)⟩
 ·refine ⟨_,_,e1,.inr ⟨g',0,rfl,hbs,fun i hi=>?_⟩⟩
  rw [Nat.mul_one] at h6
  have h7:(cur.toList.take (wNames head st).length)[i]? = ((wNames head st).map Value.string)[i]?:=by rw [h6]
  rw [List.getElem?_take,if_pos hi,Array.getElem?_toList,List.getElem?_map,List.getElem?_eq_getElem hi] at h7
  simp [World.cell?,hg,h7,List.getD_eq_getElem?_getD,List.getElem?_eq_getElem hi]
end Go.Proofs.YtajmeimjaapagaaGreatDoor
