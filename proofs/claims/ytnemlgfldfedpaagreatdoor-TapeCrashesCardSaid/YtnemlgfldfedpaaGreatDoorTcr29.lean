/- A part. -/
import Derived.Sort.OwnSorted
import Derived.Test.YtnemlgfldfedpaaGreatDoorTcr17
import Derived.Test.YtnemlgfldfedpaaGreatDoorTcr25
set_option linter.unusedVariables false
set_option linter.unusedSimpArgs false
namespace Go.Proofs.YtnemlgfldfedpaaGreatDoor
open Go.RowKit Go.Deep
def begins (head:ByteArray) (l:List Ent):List (List UInt8):=(l.filter fun e=>Lib.hasPrefix e.name.data.toList head.data.toList).map fun e=>e.name.data.toList
theorem begins_snoc (head:ByteArray) (l:List Ent) (e:Ent):begins head (l ++ [e])=begins head l ++ (if Lib.hasPrefix e.name.data.toList head.data.toList=true then [e.name.data.toList] else []):=by
 unfold begins
 rw [List.filter_append,List.map_append]
 congr 1
 rw [List.filter_cons]
 split<;>rfl
def ListTo (g:Gh) (head:ByteArray) (w:World) (e:Ending) (w':World):Prop:=
 ∃ v vis,e = .returned v∧vis.Perm g.es∧w'.ownsRow w.heap.size 9 1 v (begins head vis).length (((begins head vis).mergeSort fun x y=>decide (x≤y)).map encStr)∧Below w.heap.size w w'
theorem info_str:(Tryz.prog.info? 9).map (fun i=>(i.zero,i.size,i.bytes))=some (some (.string ⟨#[]⟩),1,16):=by kernel_rfl
theorem encStr_name (nm:ByteArray):encStr nm.data.toList = .string nm:=by
 show Value.string ⟨nm.data.toList.toArray⟩=_
 rw [Array.toArray_toList]
theorem RangeIn.grown {w w':World} {m r base:Nat} {es vis rem:List Ent} {cnt:Nat} {v:Value} {e:TypeId} {sz n:Nat} {xs:List Value} (h:RangeIn w (some m) r es vis rem cnt) (ho:w.ownsRow base e sz v n xs) (hg:w.grownBy w' v.ownBlock) (h1:m<base) (h2:r<base):RangeIn w' (some m) r es vis rem cnt:=by
 refine h.kept (Chg.of_grown (S:=fun k=>some k=v.ownBlock) hg (fun k hk _=>hk.symm)) (fun hx=>?_) (fun hx=>?_)
 ·have:=(ho.lt m hx.symm).1;omega
 ·have:=(ho.lt r hx.symm).1;omega
set_option maxHeartbeats 600000 in
set_option maxRecDepth 100000 in
theorem list_any (g:Gh) (st:St) (head:ByteArray) (w:World) (h:DiskAt w g st) (hn:st.fs.length≤1099511627776) :
 Calls Tryz.prog 85 #[.pointer (some ⟨g.d,0,none⟩),.string head] w (ListTo g head w):=by
 have c6:=h.cells.2.2.2.2.2.2.1
 have HG:=Lib.hid h
 have hle:g.es.length≤1099511627776:=by
  have h1:=congrArg List.length h.fs
  rw [List.length_map] at h1
  omega
 have HLE:=Lib.hid hle
 obtain ⟨i0,hi,hz0,hz1,hz2⟩:=info_parts info_str
 obtain ⟨R,hR⟩:∃ R,R=w.heap.size:=⟨_,rfl⟩
 have HR:=Lib.hid hR
 have hmR:∀ m,g.mb=some m→m<R:=fun m hm=>by rw [hR];exact h.lt m (mem_fp_mb g hm)
 have HMR:=Lib.hid hmR
 clear h hle hmR
 go_enter Tryz.func85,Tryz.ntmps85
 go_wp2_with (at_range;refine wpList_range_ents rfl _ rfl g.mb g.es rfl HG.out.map ?_;intro w0 cnt0 hrg0 hg0 hs0)
 rw [←hR] at hrg0 hs0 ⊢
 go_frame
 have HRG:=Lib.hid hrg0
 have HG0:=Lib.hid hg0
 have HS0:=Lib.hid hs0
 clear hrg0 hg0 hs0 hR
 go_loopw [5,6] (fun u _ wr=>∃ v vis rem cnt,v=u∧RangeIn wr g.mb R g.es vis rem cnt∧Below w.heap.size w wr∧R+1≤wr.heap.size∧wr.ownsRow (R+1) 9 1 v (begins head vis).length ((begins head vis).map encStr)) (fun _ _ wr=>toCome g.mb wr R)
 case atStart=>exact ⟨_,[],_,_,rfl,HRG.out,below_grown (Below.refl _ _) HG0.out (Nat.le_refl _),by rw [HS0.out];exact Nat.le_refl _,World.ownsRow_nil _ _ _ _⟩
 case round=>
  obtain ⟨v,vis,rem,cnt,rfl,hrg,hbl,hsz,hown⟩:=hrel
  have HRG1:=Lib.hid hrg
  have HBL:=Lib.hid hbl
  have HOWN:=Lib.hid hown
  clear hrg hbl HRG hown
  go_wp2_with (at_next;refine wpList_next_ents rfl _ rfl g.mb R g.es vis rem cnt rfl HRG1.out ?cd ?cm)
  case cd=>
   intro hrem
   have hp:vis.Perm g.es:=by
    have:=HRG1.out
    rw [hrem] at this
    exact this.done
   have HP:=Lib.hid hp
   clear hrem hp
   have hsrt:Calls Tryz.prog 123 #[v] wr fun e w'=>e = .returned (.tuple #[])∧w'.ownsRow w.heap.size 9 1 v (begins head vis).length (((begins head vis).mergeSort fun x y=>decide (x≤y)).map encStr)∧Below w.heap.size w w':=by
    have hpl:(begins head vis).length≤1099511627776:=by
     unfold begins
     rw [List.length_map]
     exact Nat.le_trans (List.length_filter_le _ _) (by rw [HP.out.length_eq];exact HLE.out)
    rcases HOWN.out.2 with ⟨rfl,h0⟩|⟨g1,cap,cur,rfl,hbase,hb,h1,h2,h3,h4⟩
    ·have hnil:begins head vis=[]:=List.length_eq_zero_iff.1 h0
     refine (Tryz.slices_Sort_string_none none 0 wr).mono ?_
     rintro e w' ⟨rfl,rfl⟩
     rw [hnil]
     refine ⟨rfl,?_,HBL.out⟩
     rw [List.mergeSort_nil]
     exact World.ownsRow_nil _ _ _ _
    ·refine (Tryz.slices_Sort_string g1 0 cap (begins head vis) wr (holds_of_block hb (by simpa using h4)) (Array.getElem?_eq_some_iff.1 hb).1 (by omega)).mono ?_
     rintro e w' ⟨rfl,nn,os,rfl⟩
     refine ⟨rfl,ownsRow_sorted (by simp) (by have:=HR.out;omega) hb h1 h2 h3,?_⟩
     exact below_grown' HBL.out (grownBy_sorted _) (Nat.le_refl _) (by have:=HR.out;omega)
   have HSRT:=Lib.hid hsrt
   clear hsrt
   go_wp2_with (go_at_call 123;refine HSRT.out.mono ?_;rintro e w2 ⟨rfl,ho2,hb2⟩)
   go_ret
   exact ⟨v,vis,rfl,HP.out,ho2,hb2⟩
  case cm=>
   intro e r1 r2 w2 cnt2 hrem hmb hrg2 hlt hg2 hs2 hen
   obtain ⟨m,hm⟩:∃ m,g.mb=some m:=by
    cases hq:g.mb with
    | none=>exact absurd hq hmb
    | some m=>exact ⟨m,rfl⟩
   have hp:=HRG1.out.perm
   rw [hrem] at hp
   have hbl2:Below w.heap.size w w2:=below_grown' HBL.out hg2 (Nat.le_refl _) (by rw [HR.out];exact Nat.le_refl _)
   have hme:toCome g.mb w2 R<toCome g.mb wr R:=by
    rw [hm] at hrg2 ⊢
    have h1:=hrg2.toCome
    have h2:=HRG1.out
    rw [hm] at h2
    rw [h1,h2.toCome]
    exact hlt
   have hown2:w2.ownsRow (R+1) 9 1 v (begins head vis).length ((begins head vis).map encStr):=HOWN.out.kept hg2 (by
    by_cases h0:v.ownBlock=none
    ·exact .inl h0
    ·right
     intro hx
     have:=(HOWN.out.lt R hx).1
     omega)
   have hlen:(begins head vis).length+1≤1099511627776+1:=by
    have h1:(begins head vis).length≤vis.length:=by unfold begins;rw [List.length_map];exact List.length_filter_le _ _
    have h2:=hp.length_eq
    simp only [List.length_append,List.length_cons] at h2
    have:=HLE.out
    omega
   have HRG2:=Lib.hid hrg2
   have HBL2:=Lib.hid hbl2
   have HME:=Lib.hid hme
   have HM:=Lib.hid hm
   have HOWN2:=Lib.hid hown2
   have HSN:=Lib.hid (begins_snoc head vis e)
   have hsz2:R+1≤w2.heap.size:=by rw [hs2];exact hsz
   clear hp hrem hmb hrg2 hlt hg2 hs2 hbl2 hme hm hown2 HRG1 HBL HOWN
   obtain ⟨b,hb⟩:∃ b,b=Lib.hasPrefix e.name.data.toList head.data.toList:=⟨_,rfl⟩
   have hpre:∀ w',Calls Tryz.prog 122 #[.string e.name,.string head] w' fun x w''=>x = .returned (.bool b)∧w''=w':=fun w'=>hb▸Tryz.strings_HasPrefix e.name head w'
   have HPRE:=Lib.hid hpre
   have HB:=Lib.hid hb
   clear hpre hb
   cases b with
   | false=>
    go_wp2_with (go_at_call 122;refine (HPRE.out _).mono ?_;rintro x w3 ⟨rfl,rfl⟩)
    refine ⟨⟨v,vis ++ [e],r1 ++ r2,cnt2,rfl,HRG2.out,HBL2.out,hsz2,?_⟩,HME.out⟩
    rw [HSN.out,←HB.out]
    simpa using HOWN2.out
   | true=>
    go_wp2_with (first
     | (go_at_call 122;refine (HPRE.out _).mono ?_;rintro x w3 ⟨rfl,rfl⟩)
     | (at_builtin;refine wpList_append_own _ rfl (.tmp 21) (.tmp 23) 28 rfl (R+1) 9 i0 (.string ⟨#[]⟩) 1 16 Tryz.underlying28 hi hz0 hz1 hz2 rfl (by decide) v (begins head vis).length ((begins head vis).map encStr) rfl (HOWN2.out.alloc _) ⟨w3.heap.size,0,none⟩ 1 1 [.string e.name] rfl rfl ?c1 ?c2 ?c3 ?c4 ?c5 ?c6))
    case c1=>exact cell_one_new _ _ _
    case c2=>intro u hu;simp at hu;rw [hu];rfl
    case c3=>unfold maxLen;omega
    case c4=>omega
    case c5=>simp;omega
    case c6=>
     intro v' w4 hown4 hgrow4 _
     have hm:=HM.out
     have hr4:RangeIn w4 g.mb R g.es (vis ++ [e]) (r1 ++ r2) cnt2:=by
      have h1:=HRG2.out
      rw [hm] at h1 ⊢
      have h2:=h1.kept (Chg.alloc (fun _=>False) (Chg.refl _ _) (.cells #[.string e.name] 9)) (fun x=>x) (fun x=>x)
      exact h2.grown (HOWN2.out.alloc _) hgrow4 (by have:=HMR.out m hm;omega) (by omega)
     have hb4:Below w.heap.size w w4:=by
      have h1:=(HBL2.out).alloc HBL2.out.size (.cells #[.string e.name] 9)
      refine h1.grown hgrow4 h1.size (fun k hk=>?_)
      have:=(HOWN2.out.lt k hk).1
      have:=HR.out
      omega
     have hs4:R+1≤w4.heap.size:=by have:=hgrow4.size;simp at this;omega
     have hme4:toCome g.mb w4 R<toCome g.mb wr R:=by
      have h1:=HME.out
      have h2:=HRG2.out
      rw [hm] at h1 h2 hr4 ⊢
      rw [hr4.toCome]
      rw [h2.toCome] at h1
      exact h1
     have HR4:=Lib.hid hr4
     have HB4:=Lib.hid hb4
     have HME4:=Lib.hid hme4
     have HO4:=Lib.hid hown4
     clear hr4 hb4 hme4 hown4 hgrow4 hm
     go_wp2_with fail
     refine ⟨⟨v',vis ++ [e],r1 ++ r2,cnt2,rfl,HR4.out,HB4.out,hs4,?_⟩,HME4.out⟩
     rw [HSN.out,←HB.out]
     simp only [if_true,List.length_append,List.map_append,List.map_cons,List.map_nil,List.length_cons,List.length_nil,encStr_name]
     exact HO4.out
end Go.Proofs.YtnemlgfldfedpaaGreatDoor
namespace Go.Proofs.YtnemlgfldfedpaaGreatDoor
open Go.RowKit Go.Deep
open Go.Sort (grow putRow Holds putCells PermIn SortedIn)
structure WaitM where
 x:WriteM
 to_:Nat
instance:Inhabited WaitM:=⟨⟨⟨0,0,⟨#[]⟩⟩,0⟩⟩
def wenc (z:WaitM):List Value:=[.int .i64 z.x.turn,.int .i64 z.x.at_,.string z.x.s,.pointer (some ⟨z.to_,0,none⟩)]
theorem wenc_length (z:WaitM):(wenc z).length=4:=rfl
theorem wenc_one (z:WaitM):∀ v∈wenc z,v.oneCell'=true:=by
 intro v hv
 simp [wenc] at hv
 rcases hv with rfl|rfl|rfl|rfl<;>rfl
def WaitsAt (w:World) (base:Nat) (v:Value) (l:List WaitM):Prop:=w.ownsRow base 89 4 v l.length (l.flatMap wenc)
theorem flat_get {α:Type} {enc:α→List Value} {k:Nat} (hk:∀ x,(enc x).length=k):∀ (l:List α) (i j:Nat),j<k→(l.flatMap enc)[i*k+j]? = (l[i]?).bind fun x=>(enc x)[j]?
 | [],i,j,_=>by simp
 | x :: l,0,j,hj=>by
  rw [List.flatMap_cons,List.getElem?_append,hk,if_pos (by omega),Nat.zero_mul,Nat.zero_add]
  simp
 | x :: l,i+1,j,hj=>by
  rw [List.flatMap_cons,List.getElem?_append,hk,if_neg (by rw [Nat.add_mul];omega),show (i+1)*k+j - k=i*k+j by rw [Nat.add_mul];omega,flat_get hk l i j hj]
  simp
theorem flatK_list (l:List WaitM):(Go.Sort.flatK wenc 4 l.toArray).toList=l.flatMap wenc:=by
 apply List.ext_getElem?
 intro t
 have hlen:(l.flatMap wenc).length=l.length*4:=by
  induction l with
  | nil=>rfl
  | cons x l ih=>rw [List.flatMap_cons,List.length_append,ih,wenc_length,List.length_cons];omega
 by_cases ht:t<l.length*4
 ·have e1:t=t / 4*4+t % 4:=by omega
  have h4:t / 4<l.length:=by omega
  rw [e1,flat_get wenc_length l (t / 4) (t % 4) (by omega),←e1,List.getElem?_eq_getElem h4]
  rw [Array.getElem?_toList]
  simp [Go.Sort.flatK,ht,h4]
  rw [List.getElem?_eq_getElem (by rw [wenc_length];omega)]
  simp [getElem!_pos,wenc_length,Nat.mod_lt]
 ·rw [List.getElem?_eq_none (by rw [Array.length_toList,Go.Sort.size_flatK];simpa using Nat.le_of_not_lt ht),List.getElem?_eq_none (by omega)]
theorem isnan_any (a:Int) (w:World):Calls Tryz.prog 111 #[.int .i64 a] w fun e w'=>e = .returned (.bool false)∧w=w':=by
 go_enter Tryz.func111,Tryz.ntmps111
 go_wp2_with fail
 go_ret
 exact ⟨by simp,rfl⟩
def cmpI (a b:Int):Int:=if a<b then -1 else if b<a then 1 else 0
set_option maxRecDepth 100000 in
theorem compare_any (a b:Int) (w:World):Calls Tryz.prog 76 #[.int .i64 a,.int .i64 b] w fun e w'=>e = .returned (.int .i64 (cmpI a b))∧w=w':=by
 by_cases h1:a<b
 ·go_enter Tryz.func76,Tryz.ntmps76
  go_wp2_with (go_at_call 111;refine (isnan_any _ _).mono ?_;rintro e w' ⟨rfl,rfl⟩)
  go_ret
  exact ⟨ret_of (by unfold cmpI;rw [if_pos (by omega)]),rfl⟩
 ·by_cases h2:b<a
  ·go_enter Tryz.func76,Tryz.ntmps76
   go_wp2_with (go_at_call 111;refine (isnan_any _ _).mono ?_;rintro e w' ⟨rfl,rfl⟩)
   go_ret
   exact ⟨ret_of (by unfold cmpI;rw [if_neg (by omega),if_pos (by omega)]),rfl⟩
  ·go_enter Tryz.func76,Tryz.ntmps76
   go_wp2_with (go_at_call 111;refine (isnan_any _ _).mono ?_;rintro e w' ⟨rfl,rfl⟩)
   go_ret
   exact ⟨ret_of (by unfold cmpI;rw [if_neg (by omega),if_neg (by omega)]),rfl⟩
def turnOf (a b:WaitM):Int:=cmpI a.x.turn b.x.turn
set_option maxRecDepth 100000 in
theorem closure_any (a b:WaitM) (W:World):Calls Tryz.prog 75 #[.agg (wenc a).toArray,.agg (wenc b).toArray] W fun e w'=>e = .returned (.int .i64 (turnOf a b))∧∃ q os',w'=grow (W.drewN q) os':=by
 have hcon:=fun W'=>compare_any a.x.turn b.x.turn W'
 unfold turnOf
 generalize cmpI a.x.turn b.x.turn=r at hcon ⊢
 obtain ⟨⟨ta,aa,sa⟩,pa⟩:=a
 obtain ⟨⟨tb,ab,sb⟩,pb⟩:=b
 simp only [wenc] at hcon ⊢
 have HC:=Lib.hid hcon
 clear hcon
 go_enter Tryz.func75,Tryz.ntmps75
 go_wp2_with (go_at_call 76;refine (HC.out _).mono ?_;rintro e w' ⟨rfl,rfl⟩)
 go_ret
 exact ⟨rfl,0,_,by rw [Go.Sort.alloc_eq_grow,Go.Sort.alloc_eq_grow,Go.Sort.grow_grow];rfl⟩
theorem turn_lt (a b:WaitM):Go.Proofs.ltOf turnOf a b=decide (a.x.turn<b.x.turn):=by
 unfold Go.Proofs.ltOf turnOf cmpI
 by_cases h1:a.x.turn<b.x.turn
 ·simp [h1]
 ·by_cases h2:b.x.turn<a.x.turn<;>simp [h1,h2]
theorem turn_swo:Go.Sort.SWO (Go.Proofs.ltOf turnOf) where
 irrefl x:=by rw [turn_lt];simp
 trans x y z h1 h2:=by rw [turn_lt] at *;simp at *;omega
 ntrans x y z h1 h2:=by rw [turn_lt] at *;simp at *;omega
theorem agg_waiting (w:World):(isAgg 89).run Tryz.prog w = .ok true w:=by kernel_rfl
theorem size_waiting (w:World):(Go.sizeOf 89).run Tryz.prog w = .ok 4 w:=by kernel_rfl
def Sorted (l:List WaitM):Prop:=l.Pairwise fun a b=>a.x.turn≤b.x.turn
theorem sort_any (v:Value) (l:List WaitM) (base:Nat) (w:World) (h:WaitsAt w base v l) (hl:l.length<4611686018427387904) :
 Calls Tryz.prog 74 #[v,.func (.func 75) #[] #[]] w fun e w'=>e = .returned (.tuple #[])∧∃ l',l'.Perm l∧Sorted l'∧WaitsAt w' base v l'∧w.grownBy w' v.ownBlock:=by
 rcases h.2 with ⟨rfl,h0⟩|⟨g1,cap,cur,rfl,hbase,hb,h1,h2,h3,h4⟩
 ·obtain rfl:l=[]:=List.length_eq_zero_iff.1 h0
  refine (AnyF.slices_SortFunc_none Tryz.sortW none 0 _ w).mono ?_
  rintro e w' ⟨rfl,rfl⟩
  exact ⟨rfl,[],List.Perm.refl _,List.Pairwise.nil,World.ownsRow_nil _ _ _ _,grownBy_refl _ _⟩
 ·have eg:∀ args w,(callFunc 75 args).run Tryz.prog w = .ok (.enter 75 args) w:=enters_of Tryz.func75 (by kernel_rfl) rfl
  have hcell:∀ j,j<l.length*4→cur[j]? = (l.flatMap wenc)[j]?:=fun j hj=>by
   have e1:(cur.toList.take (l.length*4))[j]? = (l.flatMap wenc)[j]?:=by rw [h4]
   rwa [List.getElem?_take,if_pos hj,Array.getElem?_toList] at e1
  have hH:Go.Sort.HoldsK wenc 4 w g1 0 l.toArray:=by
   intro j hj
   have hj':j<l.length*4:=by simpa using hj
   refine ⟨?_,by simp [World.frozen?,hb]⟩
   have e1:(Go.Sort.flatK wenc 4 l.toArray)[j]? = (l.flatMap wenc)[j]?:=by rw [←flatK_list l,Array.getElem?_toList]
   rw [←hcell j hj',Array.getElem?_eq_getElem (by simpa using hj')] at e1
   rw [getElem!_pos _ j (by simpa using hj')]
   simp only [World.cell?,hb,Nat.zero_add]
   exact e1.symm
  have hcon:=AnyQ.slices_SortFunc Tryz.sortW 4 agg_waiting size_waiting wenc wenc_length wenc_one turnOf turn_swo 75 #[] g1 0 cap l.toArray w eg (fun m os dk _ x y=>closure_any x y _) hH (Array.getElem?_eq_some_iff.1 hb).1 (by simpa using hl)
  refine hcon.mono ?_
  rintro e w' ⟨rfl,d',n,os,hp,hs,rfl⟩
  have hsz:d'.size=l.length:=by have:=hp.1;simpa using this
  have hperm:d'.toList.Perm l:=by
   have h5:=hp.2.2
   have e1:d'.extract 0 l.toArray.size=d':=by
    rw [show l.toArray.size=d'.size by simp [hsz]]
    simp
   have e2:l.toArray.extract 0 l.toArray.size=l.toArray:=by simp
   rw [e1,e2] at h5
   simpa using h5
  refine ⟨rfl,d'.toList,hperm,?_,?_,?_⟩
  ·unfold Sorted
   rw [List.pairwise_iff_getElem]
   intro i j hi hj hij
   have hi':i<d'.size:=by simpa using hi
   have hj':j<d'.size:=by simpa using hj
   have h6:=hs i j (Nat.zero_le _) hij (by simp;omega)
   rw [turn_lt,getElem!_pos _ i hi',getElem!_pos _ j hj'] at h6
   simp only [Array.getElem_toList]
   have:=of_decide_eq_false h6
   omega
  ·have hl4:(d'.toList.flatMap wenc).length=l.length*4:=by
    have h7:∀ x:List WaitM,(x.flatMap wenc).length=x.length*4:=by
     intro x
     induction x with
     | nil=>rfl
     | cons a x ih=>rw [List.flatMap_cons,List.length_append,ih,wenc_length,List.length_cons];omega
    rw [h7,Array.length_toList,hsz]
   have hheap:(Go.Proofs.sortWorldK wenc 4 w g1 0 n d' os).heap[g1]? = some (.cells (putCells id 0 (Go.Sort.flatK wenc 4 d') cur) 89 (0,0)):=by
    unfold Go.Proofs.sortWorldK Go.Sort.putRowK
    have hg:g1<w.heap.size:=(Array.getElem?_eq_some_iff.1 hb).1
    rw [Go.Sort.heap_grow_old _ _ (by simpa using hg)]
    simp [putRow,Go.Sort.mapBlock,Go.Sort.ahead,Array.getElem?_modify,hb,Go.Sort.onCells]
   have hfl:(Go.Sort.flatK wenc 4 d').toList=d'.toList.flatMap wenc:=by
    have:=flatK_list d'.toList
    rwa [Array.toArray_toList] at this
   unfold WaitsAt
   rw [show d'.toList.length=l.length by simpa using hsz]
   refine ⟨hl4,.inr ⟨g1,cap,_,rfl,hbase,hheap,h1,h2,by simp [putCells,h3],?_⟩⟩
   rw [←hfl]
   apply List.ext_getElem?
   intro j
   by_cases hj:j<l.length*4
   ·have hjc:j<cur.size:=by rw [h3];exact Nat.lt_of_lt_of_le hj (Nat.mul_le_mul_right _ h1)
    have hjd:j<d'.size*4:=by rw [hsz];exact hj
    rw [List.getElem?_take_of_lt hj,Array.getElem?_toList,Array.getElem?_toList]
    simp [putCells,hjd,hjc]
   ·rw [List.getElem?_take_eq_none (by omega),List.getElem?_eq_none (by rw [Array.length_toList,Go.Sort.size_flatK,hsz];omega)]
  ·refine ⟨rfl,rfl,rfl,by simp [Go.Proofs.sortWorldK,Go.Sort.putRowK],fun k hk hne=>?_⟩
   unfold Go.Proofs.sortWorldK Go.Sort.putRowK
   rw [Go.Sort.heap_grow_old _ _ (by simpa using hk)]
   have:g1≠k:=fun e=>hne (by rw [e];rfl)
   simp [putRow,Go.Sort.mapBlock,Go.Sort.ahead,Array.getElem?_modify,this]
end Go.Proofs.YtnemlgfldfedpaaGreatDoor
namespace Go.Proofs.YtnemlgfldfedpaaGreatDoor
open Go.RowKit Go.Deep
def waitsE1 (e:Ent):List WaitM:=e.f.writes.map fun x=>⟨x,e.blk⟩
def waitsOf (l:List Ent):List WaitM:=l.flatMap waitsE1
theorem waitsOf_snoc (l:List Ent) (e:Ent):waitsOf (l ++ [e])=waitsOf l ++ waitsE1 e:=by simp [waitsOf]
theorem waitsOf_length (l:List Ent):(waitsOf l).length=waitsE l:=by
 unfold waitsOf waitsE
 induction l with
 | nil=>rfl
 | cons e l ih=>rw [List.flatMap_cons,List.length_append,ih,List.map_cons,List.sum_cons];simp [waitsE1]
def WaitingTo (g:Gh) (w:World) (e:Ending) (w':World):Prop:=∃ v l,e = .returned v∧l.Perm (waitsOf g.es)∧Sorted l∧WaitsAt w' w.heap.size v l∧Below w.heap.size w w'
theorem info_waiting:(Tryz.prog.info? 89).map (fun i=>(i.zero,i.size,i.bytes))=some (some (.agg #[.int .i64 0,.int .i64 0,.string ⟨#[]⟩,.pointer none]),4,40):=by kernel_rfl
theorem WaitsAt.base {w:World} {b b':Nat} {v:Value} {l:List WaitM} (h:WaitsAt w b v l) (hb:b'≤b):WaitsAt w b' v l:=by
 refine ⟨h.1,?_⟩
 rcases h.2 with h0|⟨g,cap,cur,e,hbg,rest⟩
 ·exact .inl h0
 ·exact .inr ⟨g,cap,cur,e,by omega,rest⟩
set_option maxHeartbeats 2000000 in
set_option maxRecDepth 100000 in
theorem waiting_any (g:Gh) (st:St) (w:World) (h:DiskAt w g st) (hw:st.waits≤1099511627776) :
 Calls Tryz.prog 37 #[.pointer (some ⟨g.d,0,none⟩)] w (WaitingTo g w):=by
 have c6:=h.cells.2.2.2.2.2.2.1
 have HG:=Lib.hid h
 have HWE:Hid (waitsE g.es≤1099511627776):=by show _≤_;rw [waits_eq h];exact hw
 obtain ⟨i0,hi,hz0,hz1,hz2⟩:=info_parts info_waiting
 obtain ⟨R,hR⟩:∃ R,R=w.heap.size:=⟨_,rfl⟩
 have HR:=Lib.hid hR
 have hmR:∀ m,g.mb=some m→m<R:=fun m hm=>by rw [hR];exact h.lt m (mem_fp_mb g hm)
 have HMR:=Lib.hid hmR
 clear h hmR hw
 go_enter Tryz.func37,Tryz.ntmps37
 go_wp2_with (at_range;refine wpList_range_ents rfl _ rfl g.mb g.es rfl HG.out.map ?_;intro w0 cnt0 hrg0 hg0 hs0)
 rw [←hR] at hrg0 hs0 ⊢
 go_frame
 have HRG:=Lib.hid hrg0
 have HG0:=Lib.hid hg0
 have HS0:=Lib.hid hs0
 clear hrg0 hg0 hs0 hR
 go_loopw [3,5,7] (fun u _ _ wr=>∃ v vis rem cnt,v=u∧RangeIn wr g.mb R g.es vis rem cnt∧Below w.heap.size w wr∧R+1≤wr.heap.size∧WaitsAt wr (R+1) v (waitsOf vis)) (fun _ _ _ wr=>toCome g.mb wr R)
 case atStart=>exact ⟨_,[],_,_,rfl,HRG.out,below_grown (Below.refl _ _) HG0.out (Nat.le_refl _),by rw [HS0.out];exact Nat.le_refl _,World.ownsRow_nil _ _ _ _⟩
 case round=>
  obtain ⟨v,vis,rem,cnt,rfl,hrg,hbl,hsz,hown⟩:=hrel
  have HRG1:=Lib.hid hrg
  have HBL:=Lib.hid hbl
  have HOWN:=Lib.hid hown
  clear hrg hbl HRG hown
  obtain ⟨wo,hwo⟩:∃ wo:World,wo=wr:=⟨_,rfl⟩
  subst hwo
  go_wp2_with (at_next;refine wpList_next_ents rfl _ rfl g.mb R g.es vis rem cnt rfl HRG1.out ?cd ?cm)
  case cd=>
   intro hrem
   have hp:vis.Perm g.es:=by
    have:=HRG1.out
    rw [hrem] at this
    exact this.done
   have hlen:(waitsOf vis).length≤1099511627776:=by rw [waitsOf_length,waitsE_perm hp];exact HWE.out
   have hs:=sort_any v (waitsOf vis) (R+1) wo HOWN.out (by omega)
   have HP:=Lib.hid hp
   have HSO:=Lib.hid hs
   clear hrem hp hs hlen
   go_wp2_with (go_at_call 74;refine HSO.out.mono ?_;rintro e w2 ⟨rfl,l',hp2,hs2,ho2,hg2⟩)
   go_ret
   refine ⟨v,l',rfl,hp2.trans ?_,hs2,ho2.base (by have:=HR.out;omega),?_⟩
   ·exact (HP.out.map waitsE1).flatten
   ·refine HBL.out.grown hg2 HBL.out.size (fun k hk=>?_)
    have:=(HOWN.out.lt k hk).1
    have:=HR.out
    omega
  case cm=>
   intro e r1 r2 w2 cnt2 hrem hmb hrg2 hlt hg2 hs2 hen
   obtain ⟨m,hm⟩:∃ m,g.mb=some m:=by
    cases hq:g.mb with
    | none=>exact absurd hq hmb
    | some m=>exact ⟨m,rfl⟩
   have hp:=HRG1.out.perm
   rw [hrem] at hp
   have hem:e∈g.es:=hp.mem_iff.1 (List.mem_append_right _ (List.mem_append_right _ (List.mem_cons_self ..)))
   have hbl2:Below w.heap.size w w2:=below_grown' HBL.out hg2 (Nat.le_refl _) (by rw [HR.out];exact Nat.le_refl _)
   have hown2:WaitsAt w2 (R+1) v (waitsOf vis):=HOWN.out.kept hg2 (by
    by_cases h0:v.ownBlock=none
    ·exact .inl h0
    ·right
     intro hx
     have:=(HOWN.out.lt R hx).1
     omega)
   have htot:(waitsOf vis).length+e.f.writes.length≤1099511627776:=by
    have h1:=waitsE_perm hp
    rw [waitsE_append,waitsE_append] at h1
    have h2:waitsE (e :: r2)=e.f.writes.length+waitsE r2:=rfl
    have h3:=HWE.out
    rw [waitsOf_length]
    omega
   have hE2:∀ w3,Below w.heap.size w w3→EntAt w3 e:=fun w3 hb=>(HG.out.ents e hem).chg (Chg.of_below (S:=fun _=>False) hb) (fun _ _ x=>x)
   have hE:=hE2 w2 hbl2
   obtain ⟨pw,cw,hv⟩:=hE.writes.slice
   have q2:=hE.cells.2.2.1
   rw [hv] at q2
   obtain ⟨n,hn⟩:∃ n,n=e.f.writes.length:=⟨_,rfl⟩
   rw [←hn] at q2 htot hv
   have hme:cnt2<toCome g.mb wo R:=by
    have h2:=HRG1.out
    rw [hm] at h2 ⊢
    rw [h2.toCome]
    exact hlt
   have HE2:=Lib.hid hE2
   have HV:=Lib.hid hv
   have HN:=Lib.hid hn
   have HRG2:=Lib.hid hrg2
   have HBL2:=Lib.hid hbl2
   have HME:=Lib.hid hme
   have HM:=Lib.hid hm
   have HOWN2:=Lib.hid hown2
   have hsz2:R+1≤w2.heap.size:=by rw [hs2];exact hsz
   clear hp hrem hmb hrg2 hlt hg2 hs2 hem hbl2 hE hE2 hv hn hme hm hown2 HRG1 HBL HOWN
   go_wp2_with fail
   go_loopw [3,7,22] (fun u _ i wr=>∃ v1 k,v1=u∧k≤n∧i = .int .i64 (k:Nat)∧RangeIn wr g.mb R g.es (vis ++ [e]) (r1 ++ r2) cnt2∧Below w.heap.size w wr∧R+1≤wr.heap.size∧WaitsAt wr (R+1) v1 (waitsOf vis ++ (e.f.writes.take k).map fun x=>(⟨x,e.blk⟩:WaitM))) (fun _ _ i _=>n - (intOf i).toNat)
   case atStart=>exact ⟨v,0,rfl,Nat.zero_le _,rfl,HRG2.out,HBL2.out,hsz2,by simpa using HOWN2.out⟩
   case round=>
    obtain ⟨v1,k,rfl,hk,rfl,hrg3,hbl3,hsz3,hown3⟩:=hrel
    have HRG3:=Lib.hid hrg3
    have HBL3:=Lib.hid hbl3
    have HOWN3:=Lib.hid hown3
    clear hrg3 hbl3 hown3 HRG2 HBL2 HOWN2 hen q2
    by_cases hltk:k<n
    ·have hlt':k<e.f.writes.length:=by rw [←HN.out];exact hltk
     obtain ⟨x,hx⟩:∃ x,e.f.writes[k]? = some x:=⟨_,List.getElem?_eq_getElem hlt'⟩
     obtain ⟨gw,hpg,hg0,hg1,hg2⟩:∃ gw,pw=some ⟨gw,0,none⟩∧wr.cell? ⟨gw,k*3,none⟩=some (.int .i64 x.turn)∧wr.cell? ⟨gw,k*3+1,none⟩=some (.int .i64 x.at_)∧wr.cell? ⟨gw,k*3+1+1,none⟩=some (.string x.s):=by
      rcases (HE2.out wr HBL3.out).writes.form with ⟨_,h2⟩|⟨gw,cap,h1,_,h3⟩
      ·rw [h2] at hx;cases hx
      ·rw [HV.out] at h1
       cases h1
       exact ⟨gw,rfl,h3 k x hx⟩
     subst hpg
     have hlen:(waitsOf vis ++ (e.f.writes.take k).map fun x=>(⟨x,e.blk⟩:WaitM)).length≤1099511627776:=by
      rw [List.length_append,List.length_map,List.length_take]
      omega
     have htk:(e.f.writes.take (k+1)).map (fun x=>(⟨x,e.blk⟩:WaitM))=(e.f.writes.take k).map (fun x=>(⟨x,e.blk⟩:WaitM)) ++ [⟨x,e.blk⟩]:=by
      rw [List.take_add_one,hx,Option.toList_some,List.map_append]
      rfl
     obtain ⟨tn,at_,s⟩:=x
     obtain ⟨acc,hacc⟩:∃ acc,acc=waitsOf vis ++ (e.f.writes.take k).map fun x=>(⟨x,e.blk⟩:WaitM):=⟨_,rfl⟩
     rw [←hacc] at hlen HOWN3
     have HTK:=Lib.hid htk
     have HACC:=Lib.hid hacc
     clear htk hacc hx hlt'
     go_wp2_with (at_builtin;refine wpList_append_own _ rfl (.tmp 26) (.tmp 30) 82 rfl (R+1) 89 i0 _ 4 40 Tryz.underlying82 hi hz0 hz1 hz2 rfl (by decide) v1 acc.length (acc.flatMap wenc) rfl (World.ownsRow.alloc (World.ownsRow.alloc HOWN3.out _) _) ⟨wr.heap.size+1,0,none⟩ 1 1 (wenc ⟨⟨tn,at_,s⟩,e.blk⟩) rfl rfl ?c1 (wenc_one _) ?c3 ?c4 ?c5 ?c6)
     case c1=>
      intro j u hu
      simpa [wenc] using hu
     case c3=>unfold maxLen;omega
     case c4=>omega
     case c5=>first|omega|(simp;omega)
     case c6=>
      intro v' w4 hown4 hgrow4 _
      have hm:=HM.out
      have hr4:RangeIn w4 g.mb R g.es (vis ++ [e]) (r1 ++ r2) cnt2:=by
       have h1:=HRG3.out
       rw [hm] at h1 ⊢
       have h2:=h1.kept (S:=fun _=>False) (Chg.alloc (fun _=>False) (Chg.alloc (fun _=>False) (Chg.refl _ _) (.cells #[.int .i64 tn,.int .i64 at_,.string s] 86)) (.cells #[.int .i64 tn,.int .i64 at_,.string s,.pointer (some ⟨e.blk,0,none⟩)] 89)) (fun x=>x) (fun x=>x)
       exact h2.grown (World.ownsRow.alloc (World.ownsRow.alloc HOWN3.out _) _) hgrow4 (by have:=HMR.out m hm;omega) (by omega)
      have hb4:Below w.heap.size w w4:=by
       have h1:=((HBL3.out).alloc HBL3.out.size (.cells #[.int .i64 tn,.int .i64 at_,.string s] 86)).alloc (by have:=HBL3.out.size;simp;omega) (.cells #[.int .i64 tn,.int .i64 at_,.string s,.pointer (some ⟨e.blk,0,none⟩)] 89)
       refine h1.grown hgrow4 h1.size (fun k hk=>?_)
       have:=(HOWN3.out.lt k hk).1
       have:=HR.out
       omega
      have hs4:R+1≤w4.heap.size:=by have:=hgrow4.size;simp at this;omega
      have HR4:=Lib.hid hr4
      have HB4:=Lib.hid hb4
      have HO4:=Lib.hid hown4
      clear hr4 hb4 hown4 hgrow4 hm
      go_wp2_with fail
      refine ⟨⟨v',k+1,rfl,by omega,by go_num,HR4.out,HB4.out,hs4,?_⟩,by simp [intOf];omega⟩
      unfold WaitsAt
      rw [HTK.out,←List.append_assoc,←HACC.out,List.length_append,List.flatMap_append]
      simpa using HO4.out
    ·have hkn:k=n:=by omega
     have hfin:WaitsAt wr (R+1) v1 (waitsOf (vis ++ [e])):=by
      have h1:=HOWN3.out
      rw [hkn,HN.out,List.take_length] at h1
      rw [waitsOf_snoc]
      exact h1
     have hme3:toCome g.mb wr R<toCome g.mb wo R:=by
      have h1:=HRG3.out
      have h2:=HME.out
      rw [HM.out] at h1 h2 ⊢
      rw [h1.toCome]
      exact h2
     have HFIN:=Lib.hid hfin
     have HME3:=Lib.hid hme3
     clear hkn hfin hme3
     go_wp2_with fail
     exact ⟨⟨v1,vis ++ [e],r1 ++ r2,cnt2,rfl,HRG3.out,HBL3.out,hsz3,HFIN.out⟩,HME3.out⟩
def BoolsOf (w:World) (v:Value) (bs:List Bool):Prop:=
 ∃ a cap,v = .slice a bs.length cap∧(bs=[]∨∃ b o,a=some ⟨b,o,none⟩∧∀ i,i<bs.length→w.cell? ⟨b,o+i,none⟩=some (.bool (bs.getD i false)))
theorem BoolsOf.chg {S:Nat→Prop} {w w':World} {v:Value} {bs:List Bool} (h:BoolsOf w v bs) (hc:Chg S w w') (hn:∀ b o len cap,v = .slice (some ⟨b,o,none⟩) len cap→¬ S b):BoolsOf w' v bs:=by
 obtain ⟨a,cap,rfl,h⟩:=h
 refine ⟨a,cap,rfl,?_⟩
 rcases h with h|⟨b,o,rfl,h⟩
 ·exact .inl h
 ·exact .inr ⟨b,o,rfl,fun i hi=>hc.cell (h i hi) (hn b o _ _ rfl)⟩
theorem WaitsAt.form {w:World} {base:Nat} {v:Value} {l:List WaitM} (h:WaitsAt w base v l):(v = .slice none 0 0∧l=[]) ∨
 ∃ g cap,v = .slice (some ⟨g,0,none⟩) l.length cap∧v.ownBlock=some g∧base≤g∧(∀ i,w.frozen? ⟨g,i,none⟩=false)∧∀ i z,l[i]? = some z→w.cell? ⟨g,i*4,none⟩=some (.int .i64 z.x.turn)∧w.cell? ⟨g,i*4+1,none⟩=some (.int .i64 z.x.at_) ∧
  w.cell? ⟨g,i*4+2,none⟩=some (.string z.x.s)∧w.cell? ⟨g,i*4+3,none⟩=some (.pointer (some ⟨z.to_,0,none⟩)):=by
 rcases h.2 with ⟨e,h0⟩|⟨g,cap,cur,e,hb,hg,h1,h2,h3,h4⟩
 ·exact .inl ⟨e,List.length_eq_zero_iff.1 h0⟩
 ·refine .inr ⟨g,cap,e,by rw [e];rfl,hb,fun i=>by simp [World.frozen?,hg],fun i z hz=>?_⟩
  have hi:i<l.length:=(List.getElem?_eq_some_iff.1 hz).1
  have key:∀ j,j<4→cur[i*4+j]? = (wenc z)[j]?:=fun j hj=>by
   have e1:(cur.toList.take (l.length*4))[i*4+j]? = (l.flatMap wenc)[i*4+j]?:=by rw [h4]
   rw [List.getElem?_take,if_pos (by omega),Array.getElem?_toList,flat_get wenc_length l i j hj,hz] at e1
   exact e1
  have k0:=key 0 (by decide)
  have k1:=key 1 (by decide)
  have k2:=key 2 (by decide)
  have k3:=key 3 (by decide)
  simp [wenc] at k0 k1 k2 k3
  simp [World.cell?,hg,k0,k1,k2,k3]
def keepL (l:List WaitM) (bs:List Bool):List WaitM:=((l.zip bs).filter (·.2)).map (·.1)
theorem keepL_snoc (l:List WaitM) (bs:List Bool) (k:Nat) (z:WaitM) (b:Bool) (hz:l[k]? = some z) (hb:bs[k]? = some b) :
 keepL (l.take (k+1)) (bs.take (k+1))=keepL (l.take k) (bs.take k) ++ (if b=true then [z] else []):=by
 have hk1:(l.take k).length=(bs.take k).length:=by
  have h1:=(List.getElem?_eq_some_iff.1 hz).1
  have h2:=(List.getElem?_eq_some_iff.1 hb).1
  rw [List.length_take,List.length_take];omega
 unfold keepL
 rw [List.take_add_one,List.take_add_one,hz,hb,Option.toList_some,Option.toList_some,List.zip_append hk1,List.filter_append,List.map_append]
 congr 1
 cases b<;>rfl
theorem keepL_length (l:List WaitM) (bs:List Bool):(keepL l bs).length≤l.length:=by
 unfold keepL
 rw [List.length_map]
 refine Nat.le_trans (List.length_filter_le _ _) ?_
 rw [List.length_zip]
 exact Nat.min_le_left _ _
def lackX (x:WriteM) (lack:Int):WriteM:={ x with s:=x.s.extract 0 (x.s.size - (min (max lack 0) x.s.size).toNat)}
def cutLast (d:List WaitM) (lack:Int):List WaitM:=match d.getLast? with
 | none=>d
 | some z=>d.dropLast ++ [⟨lackX z.x lack,z.to_⟩]
theorem keepL_min (l:List WaitM) (bs:List Bool):keepL (l.take (min l.length bs.length)) (bs.take (min l.length bs.length))=keepL l bs:=by
 unfold keepL
 rw [←List.zip_eq_zip_take_min (l₁:=l) (l₂:=bs)]
theorem keepL_mem {l:List WaitM} {bs:List Bool} {z:WaitM} (h:z∈keepL l bs):z∈l:=by
 unfold keepL at h
 obtain ⟨p,hp,rfl⟩:=List.mem_map.1 h
 exact (List.of_mem_zip (List.mem_filter.1 hp).1).1
theorem cutLast_nil (lack:Int):cutLast [] lack=[]:=rfl
theorem cutLast_snoc (d:List WaitM) (z:WaitM) (lack:Int):cutLast (d ++ [z]) lack=d ++ [⟨lackX z.x lack,z.to_⟩]:=by
 unfold cutLast
 rw [List.getLast?_append]
 simp
def KeptTo (l:List WaitM) (bs:List Bool) (lack:Int) (w:World) (e:Ending) (w':World):Prop:=
 ∃ v,e = .returned v∧WaitsAt w' w.heap.size v (cutLast (keepL l bs) lack)∧Below w.heap.size w w'
set_option maxHeartbeats 2000000 in
set_option maxRecDepth 100000 in
theorem kept_any (vl vk:Value) (l:List WaitM) (bs:List Bool) (lack:Int) (w:World) (base:Nat) (hl:WaitsAt w base vl l) (hk:BoolsOf w vk bs) (hn:l.length≤1099511627776) (hb:bs.length≤1099511627776) (hz:∀ z∈l,z.x.s.size≤1099511627776) :
 Calls Tryz.prog 36 #[vl,.agg #[vk,.int .i64 lack]] w (KeptTo l bs lack w):=by
 obtain ⟨ak,ck,rfl,hkb⟩:=hk
 obtain ⟨al,cl,hal⟩:∃ a c,vl = .slice a l.length c:=by
  rcases hl.form with ⟨h1,h2⟩|⟨g,cap,h1,_⟩
  ·exact ⟨_,_,by rw [h1,h2];rfl⟩
  ·exact ⟨_,_,h1⟩
 subst hal
 obtain ⟨i0,hi,hz0,hz1,hz2⟩:=info_parts info_waiting
 have HKB:=Lib.hid hkb
 have HZ:=Lib.hid hz
 clear hz
 have HL:=Lib.hid hl
 obtain ⟨n,hnn⟩:∃ n,n=l.length:=⟨_,rfl⟩
 obtain ⟨m,hmm⟩:∃ m,m=bs.length:=⟨_,rfl⟩
 rw [←hnn] at hn ⊢
 rw [←hmm] at hb ⊢
 have HN:=Lib.hid hnn
 have HM:=Lib.hid hmm
 clear hl hkb hnn hmm
 obtain ⟨q,hq⟩:∃ q,q=min n m:=⟨_,rfl⟩
 have hqn:q≤n:=by omega
 have hqm:q≤m:=by omega
 have HQ:=Lib.hid hq
 have hmin:min n m=q:=hq.symm
 obtain ⟨R,hR⟩:∃ R,R=w.heap.size:=⟨_,rfl⟩
 have HR:=Lib.hid hR
 clear hq hR
 go_enter Tryz.func36,Tryz.ntmps36
 go_wp2_with fail
 clear hmin
 have r0:(w.alloc (.cells #[.slice ak m ck,.int .i64 lack] 25)).cell? ⟨R,0,none⟩=some (.slice ak m ck):=by rw [HR.out];simp
 have r1:(w.alloc (.cells #[.slice ak m ck,.int .i64 lack] 25)).cell? ⟨R,1,none⟩=some (.int .i64 lack):=by rw [HR.out];simp
 rw [←HR.out]
 have HR0:=Lib.hid r0
 have HR1:=Lib.hid r1
 clear r0 r1
 go_loopw [5,6,14] (fun u _ i wr=>∃ v k,v=u∧k≤q∧i = .int .i64 (k:Nat)∧WaitsAt wr (R+1) v (keepL (l.take k) (bs.take k))∧Below w.heap.size w wr∧R+1≤wr.heap.size∧wr.cell? ⟨R,0,none⟩=some (.slice ak m ck)∧wr.cell? ⟨R,1,none⟩=some (.int .i64 lack)) (fun _ _ i _=>q - (intOf i).toNat)
 case atStart=>exact ⟨_,0,rfl,Nat.zero_le _,rfl,World.ownsRow_nil _ _ _ _,(Below.refl _ _).alloc (Nat.le_refl _) _,by rw [HR.out];simp,HR0.out,HR1.out⟩
 case round=>
  obtain ⟨v,k,rfl,hk,rfl,hown,hbl,hsz,k0,k1⟩:=hrel
  have HOWN:=Lib.hid hown
  have HBL:=Lib.hid hbl
  clear hown hbl HR0 HR1
  by_cases hlt:k<q
  ·have hlk:k<l.length:=by rw [←HN.out];omega
   have hbk:k<bs.length:=by rw [←HM.out];omega
   obtain ⟨z,hz⟩:∃ z,l[k]? = some z:=⟨_,List.getElem?_eq_getElem hlk⟩
   obtain ⟨b,hb⟩:∃ b,bs[k]? = some b:=⟨_,List.getElem?_eq_getElem hbk⟩
   obtain ⟨bb,bo,hak,hbc⟩:∃ bb bo,ak=some ⟨bb,bo,none⟩∧wr.cell? ⟨bb,bo+k,none⟩=some (.bool b):=by
    rcases HKB.out with h|⟨bb,bo,h1,h2⟩
    ·rw [h] at hbk;cases hbk
    ·refine ⟨bb,bo,h1,?_⟩
     have h3:=h2 k hbk
     rw [List.getD_eq_getElem?_getD,hb] at h3
     exact (HBL.out.cell (p:=⟨bb,bo+k,none⟩) (World.block_lt_of_cell? _ _ h3)).trans h3
   obtain ⟨gl,hgl,e0,e1,e2,e3⟩:∃ gl,al=some ⟨gl,0,none⟩∧wr.cell? ⟨gl,k*4,none⟩=some (.int .i64 z.x.turn)∧wr.cell? ⟨gl,k*4+1,none⟩=some (.int .i64 z.x.at_)∧wr.cell? ⟨gl,k*4+1+1,none⟩=some (.string z.x.s)∧wr.cell? ⟨gl,k*4+1+1+1,none⟩=some (.pointer (some ⟨z.to_,0,none⟩)):=by
    rcases HL.out.form with ⟨_,h2⟩|⟨gl,cap,h1,_,_,_,h3⟩
    ·rw [h2] at hlk;cases hlk
    ·cases h1
     obtain ⟨c0,c1,c2,c3⟩:=h3 k z hz
     have tr:∀ i u,w.cell? ⟨gl,i,none⟩=some u→wr.cell? ⟨gl,i,none⟩=some u:=fun i u hu=>(HBL.out.cell (p:=⟨gl,i,none⟩) (World.block_lt_of_cell? _ _ hu)).trans hu
     exact ⟨gl,rfl,tr _ _ c0,tr _ _ c1,tr _ _ c2,tr _ _ c3⟩
   subst hak
   subst hgl
   have hks:=keepL_snoc l bs k z b hz hb
   have hln:(keepL (l.take k) (bs.take k)).length≤1099511627776:=by
    refine Nat.le_trans (keepL_length _ _) ?_
    rw [List.length_take]
    omega
   obtain ⟨⟨tn,at_,s⟩,pt⟩:=z
   obtain ⟨acc,hacc⟩:∃ acc,acc=keepL (l.take k) (bs.take k):=⟨_,rfl⟩
   rw [←hacc] at hln hks HOWN
   have HKS:=Lib.hid hks
   clear hks hz hb hlk hbk hacc
   cases b with
   | false=>
    go_wp2_with fail
    refine ⟨⟨v,k+1,rfl,by omega,by go_num,?_,HBL.out,hsz,k0,k1⟩,by simp [intOf];omega⟩
    rw [HKS.out]
    simpa using HOWN.out
   | true=>
    go_wp2_with (at_builtin;refine wpList_append_own _ rfl (.tmp 22) (.tmp 27) 82 rfl (R+1) 89 i0 _ 4 40 Tryz.underlying82 hi hz0 hz1 hz2 rfl (by decide) v acc.length (acc.flatMap wenc) rfl (World.ownsRow.alloc HOWN.out _) ⟨wr.heap.size,0,none⟩ 1 1 (wenc ⟨⟨tn,at_,s⟩,pt⟩) rfl rfl ?c1 (wenc_one _) ?c3 ?c4 ?c5 ?c6)
    case c1=>
     intro j u hu
     simpa [wenc] using hu
    case c3=>unfold maxLen;omega
    case c4=>omega
    case c5=>first|omega|(simp;omega)
    case c6=>
     intro v' w4 hown4 hgrow4 _
     have hb4:Below w.heap.size w w4:=by
      have h1:=(HBL.out).alloc HBL.out.size (.cells #[.int .i64 tn,.int .i64 at_,.string s,.pointer (some ⟨pt,0,none⟩)] 89)
      refine h1.grown hgrow4 h1.size (fun k hk=>?_)
      have:=(HOWN.out.lt k hk).1
      have:=HR.out
      omega
     have hs4:R+1≤w4.heap.size:=by have:=hgrow4.size;simp at this;omega
     have hkeep:∀ i u,wr.cell? ⟨R,i,none⟩=some u→w4.cell? ⟨R,i,none⟩=some u:=fun i u hu=>by
      have h1:(wr.alloc (.cells #[.int .i64 tn,.int .i64 at_,.string s,.pointer (some ⟨pt,0,none⟩)] 89)).cell? ⟨R,i,none⟩=some u:=(World.cell?_of_block (w:=wr) (Below.heap_alloc wr _ _ (World.block_lt_of_cell? _ _ hu))).trans hu
      refine hgrow4.cell h1 ?_
      intro hx
      have:=(HOWN.out.lt R hx.symm).1
      omega
     have j0:=hkeep 0 _ k0
     have j1:=hkeep 1 _ k1
     have HB4:=Lib.hid hb4
     have HO4:=Lib.hid hown4
     have J0:=Lib.hid j0
     have J1:=Lib.hid j1
     clear hb4 hown4 hgrow4 hkeep j0 j1
     go_wp2_with fail
     refine ⟨⟨v',k+1,rfl,by omega,by go_num,?_,HB4.out,hs4,J0.out,J1.out⟩,by simp [intOf];omega⟩
     unfold WaitsAt
     rw [HKS.out,if_pos trivial,List.length_append,List.flatMap_append]
     simpa using HO4.out
  ·have hkq:k=q:=by omega
   have hlm:min (n:Int) (m:Int)≤(k:Int):=by have:=HQ.out;omega
   have hln:¬ ((k:Int)<min (n:Int) (m:Int)):=by omega
   have hd:WaitsAt wr (R+1) v (keepL l bs):=by
    have h1:=HOWN.out
    rw [hkq,HQ.out,HN.out,HM.out,keepL_min] at h1
    exact h1
   clear HOWN hkq
   obtain ⟨d,hdd⟩:∃ d,d=keepL l bs:=⟨_,rfl⟩
   rw [←hdd] at hd
   have HDD:=Lib.hid hdd
   have hdl:d.length≤1099511627776:=by
    rw [hdd]
    refine Nat.le_trans (keepL_length _ _) ?_
    rw [←HN.out]
    exact hn
   clear hdd
   rcases List.eq_nil_or_concat d with rfl|⟨d0,z,hz⟩
   ·obtain ⟨p,c,rfl⟩:∃ p c,v = .slice p 0 c:=by
     rcases hd.form with ⟨h1,_⟩|⟨g,cap,h1,_⟩
     ·exact ⟨_,_,h1⟩
     ·exact ⟨_,_,h1⟩
    have HD:=Lib.hid hd
    clear hd
    go_wp2_with fail
    go_ret
    refine ⟨_,rfl,?_,HBL.out⟩
    rw [←HDD.out,cutLast_nil]
    exact HD.out.base (by have:=HR.out;omega)
   ·rw [List.concat_eq_append] at hz
    subst hz
    have hdl':d0.length+1≤1099511627776:=by simpa using hdl
    obtain ⟨gd,cap,hv,hob,hgb,hfz,hcs⟩:∃ gd cap,v = .slice (some ⟨gd,0,none⟩) (d0.length+1) cap∧v.ownBlock=some gd∧R+1≤gd∧(∀ i,wr.frozen? ⟨gd,i,none⟩=false)∧wr.cell? ⟨gd,d0.length*4+2,none⟩=some (.string z.x.s):=by
     rcases hd.form with ⟨_,h2⟩|⟨g,cap,h1,h2,h3,h4,h5⟩
     ·simp at h2
     ·exact ⟨g,cap,by simpa using h1,h2,h3,h4,(h5 d0.length z (by simp)).2.2.1⟩
    subst hv
    obtain ⟨nd,hnd⟩:∃ nd,nd=d0.length:=⟨_,rfl⟩
    rw [←hnd] at hdl' hcs ⊢
    have hf2:=hfz (nd*4+2)
    have HD:=Lib.hid hd
    have HND:=Lib.hid hnd
    clear hd hfz hob hdl hnd
    obtain ⟨⟨tn,at_,s⟩,pt⟩:=z
    simp only at hcs
    obtain ⟨wl,hwl⟩:∃ wl:Nat,(wl:Int)=min (max lack 0) (s.size:Int):=⟨(min (max lack 0) (s.size:Int)).toNat,by omega⟩
    have hwi:∀ w',Calls Tryz.prog 22 #[.int .i64 lack,.int .i64 (s.size:Nat)] w' fun e w''=>e = .returned (.int .i64 (wl:Nat))∧w'=w'':=fun w'=>hwl▸within_any lack s.size w'
    obtain ⟨cc,hcc⟩:∃ cc,cc=s.size - wl:=⟨_,rfl⟩
    have hss:s.size≤1099511627776:=HZ.out ⟨⟨tn,at_,s⟩,pt⟩ (keepL_mem (by rw [←HDD.out];simp))
    have hwr:IntKind.i64.wrap ((s.size:Int) - (wl:Int))=(cc:Int):=by
     rw [IntWalk.i64_in _ (by omega)]
     omega
    have hc1:(0:Int)≤(cc:Int):=by omega
    have hc2:(cc:Int)≤(s.size:Int):=by omega
    have hc3:cc≤s.size:=by omega
    have HWI:=Lib.hid hwi
    have HWL:=Lib.hid hwl
    have HCC:=Lib.hid hcc
    clear hwi hwl hcc
    go_wp2_with fail
    go_still_tail 26,(by kernel_rfl)
    still_call ((HWI.out _).mono fun _ _ h=>⟨h.1,h.2.symm⟩)
    repeat still_step
    refine wpStill_nil ?_
    change wpList _ _ _ _ _ wr.drew
    have hd2:WaitsAt wr.drew (R+1) (.slice (some ⟨gd,0,none⟩) (nd+1) cap) (d0 ++ [⟨⟨tn,at_,s⟩,pt⟩]):=by rw [HND.out];exact HD.out
    have hb2:=HBL.out.drew
    have cs2:wr.drew.cell? ⟨gd,nd*4+2,none⟩=some (.string s):=hcs
    have fz2:wr.drew.frozen? ⟨gd,nd*4+2,none⟩=false:=hf2
    have hge:gd<wr.heap.size:=World.block_lt_of_cell? _ _ hcs
    clear hcs hf2 k0 k1
    generalize wr.drew=w5 at hd2 hb2 cs2 fz2 ⊢
    have HD2:=Lib.hid hd2
    have HB2:=Lib.hid hb2
    clear hd2 hb2
    go_wp2_with fail
    go_ret
    have hfl:(d0 ++ [(⟨⟨tn,at_,s⟩,pt⟩:WaitM)]).length=nd+1:=by rw [List.length_append,HND.out];rfl
    have hst:w5.ownsRow (R+1) 89 4 (.slice (some ⟨gd,0,none⟩) (nd+1) cap) (nd+1) ((d0 ++ [(⟨⟨tn,at_,s⟩,pt⟩:WaitM)]).flatMap wenc):=by
     have:=HD2.out
     unfold WaitsAt at this
     rwa [hfl] at this
    have hsto:=hst.stored (nd*4+2) (.string (s.extract 0 cc))
    have hset:(((d0 ++ [(⟨⟨tn,at_,s⟩,pt⟩:WaitM)]).flatMap wenc).set (nd*4+2) (.string (s.extract 0 cc)))=(d0 ++ [(⟨lackX ⟨tn,at_,s⟩ lack,pt⟩:WaitM)]).flatMap wenc:=by
     have h7:∀ x:List WaitM,(x.flatMap wenc).length=x.length*4:=by
      intro x
      induction x with
      | nil=>rfl
      | cons a x ih=>rw [List.flatMap_cons,List.length_append,ih,wenc_length,List.length_cons];omega
     rw [List.flatMap_append,List.flatMap_append,List.set_append_right _ _ (by rw [h7,HND.out];omega),h7,←HND.out,Nat.add_sub_cancel_left]
     have e8:cc=s.size - (min (max lack 0) (s.size:Int)).toNat:=by rw [HCC.out];have:=HWL.out;omega
     simp [wenc,lackX,e8]
    refine ⟨_,rfl,?_,?_⟩
    ·rw [←HDD.out,cutLast_snoc]
     have h1:=hsto.1
     rw [hset] at h1
     have h2:WaitsAt (w5.setCell ⟨gd,nd*4+2,none⟩ (.string (s.extract 0 cc))) (R+1) (.slice (some ⟨gd,0,none⟩) (nd+1) cap) (d0 ++ [⟨lackX ⟨tn,at_,s⟩ lack,pt⟩]):=by
      unfold WaitsAt
      rw [show (d0 ++ [(⟨lackX ⟨tn,at_,s⟩ lack,pt⟩:WaitM)]).length=nd+1 by rw [List.length_append,HND.out];rfl]
      exact h1
     exact h2.base (by have:=HR.out;omega)
    ·exact HB2.out.setCell (by show w.heap.size≤gd;have:=HR.out;omega) _
abbrev Sk:=ByteArray×Nat×FileM
def skel (e:Ent):Sk:=(e.name,e.blk,e.f)
def imgF (f:FileM) (x:WriteM):FileM:={ f with image:=putB f.image x.at_ x.s.data.toList }
def img1 (z:WaitM) (p:Sk):Sk:=if p.2.1=z.to_ then (p.1,p.2.1,imgF p.2.2 z.x) else p
theorem img1_eq {p:Sk} {z:WaitM} (h:p.2.1=z.to_):img1 z p=(p.1,p.2.1,imgF p.2.2 z.x):=if_pos h
theorem img1_ne {p:Sk} {z:WaitM} (h:¬ p.2.1=z.to_):img1 z p=p:=if_neg h
def img (l:List Sk) (z:WaitM):List Sk:=l.map (img1 z)
def imgs (l:List Sk) (d:List WaitM):List Sk:=d.foldl img l
theorem imgs_snoc (l:List Sk) (d:List WaitM) (z:WaitM):imgs l (d ++ [z])=img (imgs l d) z:=by simp [imgs]
def fsOf (l:List Sk):List (ByteArray×FileM):=l.map fun p=>(p.1,p.2.2)
theorem fsOf_skel (es:List Ent):fsOf (es.map skel)=es.map nf:=by
 unfold fsOf
 rw [List.map_map]
 rfl
def blksOf (l:List Sk):List (ByteArray×Nat):=l.map fun p=>(p.1,p.2.1)
theorem blks_img (l:List Sk) (z:WaitM):blksOf (img l z)=blksOf l:=by
 unfold blksOf img
 rw [List.map_map]
 refine List.map_congr_left fun p _=>?_
 simp only [Function.comp,img1]
 split<;>rfl
theorem blks_imgs (l:List Sk) (d:List WaitM):blksOf (imgs l d)=blksOf l:=by
 unfold imgs
 induction d generalizing l with
 | nil=>rfl
 | cons z d ih=>rw [List.foldl_cons,ih,blks_img]
theorem blk_one {w:World} {g:Gh} {st:St} (h:DiskAt w g st) {a b:Ent} (ha:a∈g.es) (hb:b∈g.es) (hx:a.blk=b.blk):a=b:=by
 obtain ⟨l1,l2,hes⟩:=List.append_of_mem ha
 have hap:=(fp_perm g hes).nodup_iff.1 h.apart
 rw [hes] at hb
 have hr:∀ x,x∈l1∨x∈l2→x.blk≠a.blk:=fun x hx' he=>by
  refine (List.nodup_append.1 hap).2.2 a.blk (mem_foot_blk a) a.blk ?_ rfl
  unfold rest
  rw [←he]
  exact List.mem_cons_of_mem _ (List.mem_append_right _ (List.mem_flatMap.2 ⟨x,List.mem_append.2 hx',mem_foot_blk x⟩))
 rcases List.mem_append.1 hb with h1|h1
 ·exact absurd hx.symm (hr b (.inl h1))
 ·rcases List.mem_cons.1 h1 with rfl|h1
  ·rfl
  ·exact absurd hx.symm (hr b (.inr h1))
theorem setE_img {w:World} {g:Gh} {st:St} (h:DiskAt w g st) {e e':Ent} (he:e∈g.es) (hn:e'.name=e.name) (hb:e'.blk=e.blk) (x:WriteM) (hf:e'.f=imgF e.f x) :
 (setE g.es e').map skel=img (g.es.map skel) ⟨x,e.blk⟩:=by
 unfold setE img
 rw [List.map_map,List.map_map]
 refine List.map_congr_left fun y hy=>?_
 simp only [Function.comp]
 by_cases hq:y.blk=e.blk
 ·obtain rfl:=blk_one h hy he hq
  rw [if_pos hn.symm,img1_eq (p:=skel y) (z:=⟨x,y.blk⟩) rfl]
  simp only [skel]
  rw [hn,hb,hf]
 ·rw [img1_ne (p:=skel y) (z:=⟨x,e.blk⟩) hq,if_neg]
  intro hx
  have h1:=getE_of h.map.1 hy
  have h2:=getE_of h.map.1 he
  rw [hx,hn,h2] at h1
  exact hq (by cases h1;rfl)
theorem keep_sub {l:List WaitM} {bs:List Bool} {lack:Int} {z:WaitM} (h:z∈cutLast (keepL l bs) lack):∃ y∈l,y.to_=z.to_∧y.x.at_=z.x.at_∧z.x.s.size≤y.x.s.size:=by
 rcases List.eq_nil_or_concat (keepL l bs) with h0|⟨d0,y,h0⟩
 ·rw [h0,cutLast_nil] at h;cases h
 ·rw [List.concat_eq_append] at h0
  rw [h0,cutLast_snoc] at h
  rcases List.mem_append.1 h with h1|h1
  ·exact ⟨z,keepL_mem (by rw [h0];exact List.mem_append_left _ h1),rfl,rfl,Nat.le_refl _⟩
  ·simp at h1
   subst h1
   refine ⟨y,keepL_mem (by rw [h0];simp),rfl,rfl,?_⟩
   simp only [lackX]
   rw [ByteArray.size_extract]
   omega
theorem waits_mem {es:List Ent} {z:WaitM} (h:z∈waitsOf es):∃ e∈es,e.blk=z.to_∧z.x∈e.f.writes:=by
 unfold waitsOf at h
 obtain ⟨e,he,hz⟩:=List.mem_flatMap.1 h
 obtain ⟨x,hx,rfl⟩:=List.mem_map.1 hz
 exact ⟨e,he,rfl,hx⟩
def at1 (F:FileM→FileM) (b:Nat) (p:Sk):Sk:=if p.2.1=b then (p.1,p.2.1,F p.2.2) else p
theorem setE_at {w:World} {g:Gh} {st:St} (h:DiskAt w g st) {e e':Ent} (he:e∈g.es) (hn:e'.name=e.name) (hb:e'.blk=e.blk) (F:FileM→FileM) (hf:e'.f=F e.f) :
 (setE g.es e').map skel=(g.es.map skel).map (at1 F e.blk):=by
 unfold setE
 rw [List.map_map,List.map_map]
 refine List.map_congr_left fun y hy=>?_
 simp only [Function.comp]
 by_cases hq:y.blk=e.blk
 ·obtain rfl:=blk_one h hy he hq
  have h1:at1 F y.blk (skel y)=((skel y).1,(skel y).2.1,F (skel y).2.2):=if_pos rfl
  rw [if_pos hn.symm,h1]
  simp only [skel]
  rw [hn,hb,hf]
 ·have h1:at1 F e.blk (skel y)=skel y:=if_neg hq
  rw [h1,if_neg]
  intro hx
  have h1:=getE_of h.map.1 hy
  have h2:=getE_of h.map.1 he
  rw [hx,hn,h2] at h1
  exact hq (by cases h1;rfl)
def loseIf (vis:List Ent) (p:Sk):Sk:=if p.2.1∈vis.map (·.blk) then (p.1,p.2.1,loseF p.2.2) else p
theorem loseIf_blk (vis:List Ent) (p:Sk):(loseIf vis p).2.1=p.2.1:=by unfold loseIf;split<;>rfl
theorem loseIf_snoc {vis:List Ent} {e:Ent} (he:e.blk∉vis.map (·.blk)) (p:Sk):at1 loseF e.blk (loseIf vis p)=loseIf (vis ++ [e]) p:=by
 by_cases hq:p.2.1=e.blk
 ·have h1:loseIf vis p=p:=if_neg (by rw [hq];exact he)
  have h2:loseIf (vis ++ [e]) p=(p.1,p.2.1,loseF p.2.2):=if_pos (by rw [hq];simp)
  rw [h1,h2]
  exact if_pos hq
 ·have h1:at1 loseF e.blk (loseIf vis p)=loseIf vis p:=if_neg (by rw [loseIf_blk];exact hq)
  rw [h1]
  unfold loseIf
  by_cases hv:p.2.1∈vis.map (·.blk)
  ·rw [if_pos hv,if_pos (by rw [List.map_append];exact List.mem_append_left _ hv)]
  ·rw [if_neg hv,if_neg (by rw [List.map_append];intro hx;rcases List.mem_append.1 hx with h|h;exact hv h;simp at h;exact hq h)]
def sumL (vis:List Ent):Nat:=(vis.map fun e=>(loseF e.f).bytes.length).sum
theorem sumL_append (a b:List Ent):sumL (a ++ b)=sumL a+sumL b:=by simp [sumL]
theorem sumL_perm {a b:List Ent} (h:a.Perm b):sumL a=sumL b:=(h.map _).sum_nat
def SkIn (l:List Sk) (n:Nat):Prop:=∀ p∈l,Within p.2.2 n
theorem SkIn.img {l:List Sk} {n:Nat} (h:SkIn l n) {z:WaitM} (hz:z.x.at_+z.x.s.size≤n):SkIn (img l z) n:=by
 intro p hp
 obtain ⟨q,hq,rfl⟩:=List.mem_map.1 hp
 unfold img1
 split
 ·have h1:=h q hq
  refine ⟨?_,h1.2⟩
  have h2:=putB_le q.2.2.image z.x.at_ z.x.s.data.toList
  have h3:z.x.s.data.toList.length=z.x.s.size:=by rw [Array.length_toList];rfl
  have h4:=h1.1
  show (putB _ _ _).length≤n
  omega
 ·exact h q hq
theorem SkIn.imgs {l:List Sk} {n:Nat} (h:SkIn l n) {d:List WaitM} (hd:∀ z∈d,z.x.at_+z.x.s.size≤n):SkIn (imgs l d) n:=by
 unfold Go.Proofs.YtnemlgfldfedpaaGreatDoor.imgs
 induction d generalizing l with
 | nil=>exact h
 | cons z d ih=>rw [List.foldl_cons];exact ih (h.img (hd z (List.mem_cons_self ..))) (fun y hy=>hd y (List.mem_cons_of_mem _ hy))
theorem DiskAt.refs {w:World} {g:Gh} {st:St} {fs:List (ByteArray×FileM)} (h:DiskAt w g { st with fs:=fs }) {fs':List (ByteArray×FileM)} (hf:g.es.map nf=fs'):DiskAt w g { st with fs:=fs' }:=
 ⟨h.head,h.map,h.ents,h.apart,hf⟩
theorem ent_of {g1:Gh} {l:List Sk} (h:blksOf (g1.es.map skel)=blksOf l) {b:Nat} (hb:∃ p∈l,p.2.1=b):∃ e∈g1.es,e.blk=b:=by
 obtain ⟨p,hp,rfl⟩:=hb
 have h1:(p.1,p.2.1)∈blksOf (g1.es.map skel):=by rw [h];exact List.mem_map_of_mem hp
 obtain ⟨q,hq,hx⟩:=List.mem_map.1 h1
 obtain ⟨e,he,rfl⟩:=List.mem_map.1 hq
 exact ⟨e,he,congrArg Prod.snd hx⟩
attribute [local go_sem] fr_opt
def WaitG (g:Gh) (w:World) (v:Value) (w':World):Prop:=∃ l,l.Perm (waitsOf g.es)∧Sorted l∧WaitsAt w' w.heap.size v l∧Below w.heap.size w w'
theorem WaitG.cell {g:Gh} {w w':World} {v:Value} (h:WaitG g w v w') {p:Addr} {u:Value} (hp:w.cell? p=some u):w'.cell? p=some u:=by
 obtain ⟨l,_,_,_,hb⟩:=h
 exact (hb.cell (p:=p) (World.block_lt_of_cell? _ _ hp)).trans hp
def KeptG (g:Gh) (bs:List Bool) (lack:Int) (w:World) (v:Value) (w':World):Prop:=∃ l,l.Perm (waitsOf g.es)∧Sorted l∧WaitsAt w' w.heap.size v (cutLast (keepL l bs) lack)∧Below w.heap.size w w'
def KeptL (g:Gh) (bs:List Bool) (lack:Int) (w:World) (v n:Value) (w':World):Prop:=∃ l,l.Perm (waitsOf g.es)∧Sorted l∧WaitsAt w' w.heap.size v (cutLast (keepL l bs) lack)∧Below w.heap.size w w'∧n = .int .i64 ((cutLast (keepL l bs) lack).length:Nat)
theorem PutW.other {w w':World} {v:Value} {ys:List UInt8} {v':Value} (h:PutW w v ys v' w') {b o:Nat} {u:Value} (hn:v.ownBlock≠some b) (hc:w.cell? ⟨b,o,none⟩=some u):w'.cell? ⟨b,o,none⟩=some u:=
 h.2.1.cell hc (fun e=>hn e.symm)
theorem KeptG.form {g:Gh} {bs:List Bool} {lack:Int} {w w':World} {v:Value} (h:KeptG g bs lack w v w'):∃ (p:Option Addr) (n c:Nat),v = .slice p n c∧KeptL g bs lack w (.slice p n c) (.int .i64 n) w':=by
 obtain ⟨l,h1,h2,h3,h4⟩:=h
 have hs:∃ p c,v = .slice p (cutLast (keepL l bs) lack).length c:=by
  rcases h3.form with ⟨h5,h6⟩|⟨gg,cap,h5,_⟩
  ·exact ⟨none,0,by rw [h5,h6];rfl⟩
  ·exact ⟨_,_,h5⟩
 obtain ⟨p,c,rfl⟩:=hs
 exact ⟨p,_,c,rfl,l,h1,h2,h3,h4,rfl⟩
theorem kept_to {g:Gh} {bs:List Bool} {lack:Int} {w w':World} {v vk:Value} (hvk:BoolsOf w vk bs) (h:WaitG g w v w') (hb:BoolsOf w' vk bs) (hw:(waitsOf g.es).length≤1099511627776) (hbs:bs.length≤1099511627776) (hz:∀ z∈waitsOf g.es,z.x.s.size≤1099511627776) :
 Calls Tryz.prog 36 #[v,.agg #[vk,.int .i64 lack]] w' fun e w''=>∃ v',e = .returned v'∧KeptG g bs lack w v' w'':=by
 obtain ⟨l,h1,h2,h3,h4⟩:=h
 refine (kept_any v vk l bs lack w' _ h3 hb (by rw [h1.length_eq];exact hw) hbs (fun z hz'=>hz z (h1.mem_iff.1 hz'))).mono ?_
 rintro e w2 ⟨v',he,hv,hbl⟩
 exact ⟨v',he,l,h1,h2,hv.base h4.size,h4.trans (hbl.mono h4.size)⟩
def crashS (st:St) (sk:List Sk):St:=⟨false,false,0,st.cap,(sk.map fun p=>(loseF p.2.2).bytes.length).sum,st.turn,sk.map fun p=>(p.1,loseF p.2.2)⟩
def CrashTo (g:Gh) (st:St) (bs:List Bool) (lack:Int) (w:World) (e:Ending) (w':World):Prop:=
 e = .returned (.tuple #[])∧∃ l g',l.Perm (waitsOf g.es)∧Sorted l∧DiskAt w' g' (crashS st (imgs (g.es.map skel) (cutLast (keepL l bs) lack)))∧Gh.To w g g' w'
set_option maxHeartbeats 4000000 in
set_option maxRecDepth 100000 in
theorem crash_any (g:Gh) (st:St) (vk:Value) (bs:List Bool) (lack:Int) (w:World) (h:DiskAt w g st) (hvb:BoolsOf w vk bs) (hw:st.waits≤1099511627776) (hbs:bs.length≤1099511627776) (hin:AllIn st 1099511627776)
 (hsum:∀ l,l.Perm (waitsOf g.es)→Sorted l→((imgs (g.es.map skel) (cutLast (keepL l bs) lack)).map fun p=>(loseF p.2.2).bytes.length).sum≤1099511627776) :
 Calls Tryz.prog 13 #[.pointer (some ⟨g.d,0,none⟩),.agg #[vk,.int .i64 lack]] w (CrashTo g st bs lack w):=by
 have hw2:(waitsOf g.es).length≤1099511627776:=by rw [waitsOf_length,waits_eq h];exact hw
 have hzz:∀ z∈waitsOf g.es,z.x.s.size≤1099511627776:=fun z hz=>by
  obtain ⟨e,he,_,hx⟩:=waits_mem hz
  have h1:nf e∈st.fs:=by rw [←h.fs];exact List.mem_map_of_mem he
  have h2:=(hin _ h1).2.2.2 z.x hx
  omega
 obtain ⟨R,hR⟩:∃ R,R=w.heap.size:=⟨_,rfl⟩
 have HR:=Lib.hid hR
 have HG:=Lib.hid h
 have HIN:=Lib.hid hin
 have HZZ:=Lib.hid hzz
 have HVB0:=Lib.hid hvb
 have HSUM:=Lib.hid hsum
 clear h hin hzz hvb hsum
 obtain ⟨ak,nk,ck,rfl⟩:∃ a n c,vk = .slice a n c:=by
  obtain ⟨a,c,h1,_⟩:=HVB0.out
  exact ⟨a,_,c,h1⟩
 clear hR
 go_enter Tryz.func13,Tryz.ntmps13
 go_wp2_with fail
 rename_i Kc hc
 rw [←HR.out]
 have b0:(w.alloc (.cells #[.slice ak nk ck,.int .i64 lack] 25)).cell? ⟨R,0,none⟩=some (.slice ak nk ck):=by rw [HR.out];simp
 have b1:(w.alloc (.cells #[.slice ak nk ck,.int .i64 lack] 25)).cell? ⟨R,1,none⟩=some (.int .i64 lack):=by rw [HR.out];simp
 have hnew:Chg (fun _=>False) w (w.alloc (.cells #[.slice ak nk ck,.int .i64 lack] 25)):=Chg.alloc _ (Chg.refl _ _) _
 have hszz:(w.alloc (.cells #[.slice ak nk ck,.int .i64 lack] 25)).heap.size=R+1:=by rw [HR.out];simp
 generalize w.alloc (.cells #[.slice ak nk ck,.int .i64 lack] 25)=W0 at *
 have HD:Hid (DiskAt W0.drew g st):=(HG.out.new hnew).drew
 have HVB:Hid (BoolsOf W0 (.slice ak nk ck) bs):=HVB0.out.chg hnew (fun _ _ _ _ _ x=>x)
 have HBO:Hid (∀ {v:Value} {w':World},WaitG g W0 v w'→BoolsOf w' (.slice ak nk ck) bs):=fun {v w'} hg=>by
  obtain ⟨l,_,_,_,hb⟩:=hg
  exact HVB.out.chg (Chg.of_below (S:=fun _=>False) hb) (fun _ _ _ _ _ x=>x)
 have HNEW:=Lib.hid hnew
 have HSZ:=Lib.hid hszz
 clear hnew hszz
 refine region_ph (n:=66) 12 [1,3,4] rfl rfl (by kernel_rfl) (by kernel_rfl) (by kernel_rfl) (fun i v=>match i with|0=>v = .pointer (some ⟨g.d,0,none⟩)|2=>v = .agg #[.slice ak nk ck,.int .i64 lack]|5=>v = .int .i64 0|_=>True)
  (fun p f w'=>match p with|0=>W0.drew=w'|1=>WaitG g W0 (f 11) w'|2=>KeptG g bs lack W0 (f 13) w'|_=>KeptL g bs lack W0 (f 13) (f 14) w') ?_ ?_ ?_
 ·exact rfl
 ·simp only [AllAt]
  refine ⟨?_,?_,?_,?_,?_,?_,trivial⟩
  ·refine StepPh.reg rfl (by decide) (fun d hd=>by cases hd;decide) ?_
   intro f w' p hG hup hdn hfr hp K hK
   have g0:f 0 = .pointer (some ⟨g.d,0,none⟩):=hfr 0 (by kernel_rfl)
   clear hfr hp hup hdn
   go_simp
   exact hK _ _ rfl hG
  ·refine StepPh.wr 0 rfl (by decide) rfl (fun d hd=>by cases hd;decide) (fun j hj=>by omega) ?_
   intro f w' hG hfr hp K hK
   have g10:f 10 = .pointer (some ⟨g.d,0,none⟩):=hp 0 _ 10 rfl rfl (by kernel_rfl)
   clear hfr hp
   have hGe:W0.drew=w':=hG
   subst hGe
   go_simp
   refine (waiting_any g st W0.drew HD.out hw).mono ?_
   rintro en w1 ⟨v,l,rfl,h1,h2,h3,h4⟩
   exact hK _ _ (fun _=>trivial) ⟨l,h1,h2,h3,(Below.drew (Below.refl W0.heap.size W0)).trans h4⟩
  ·refine StepPh.reg rfl (by decide) (fun d hd=>by cases hd;decide) ?_
   intro f w' p hG hup hdn hfr hp K hK
   have g3:f 3 = .pointer (some ⟨R,0,none⟩):=hfr 3 (by kernel_rfl)
   have hpp:p=0∨p=1:=by have:=hdn 1 (by decide) (.inl (by kernel_rfl));omega
   clear hfr hp hup hdn
   rcases hpp with rfl|rfl
   ·have hGe:W0.drew=w':=hG
    subst hGe
    go_simp
    exact hK _ _ rfl hG
   ·have hGw:WaitG g W0 (f 11) w':=hG
    have e0:=hGw.cell b0
    have e1:=hGw.cell b1
    go_simp
    exact hK _ _ rfl hG
  ·refine StepPh.wr 1 rfl (by decide) rfl (fun d hd=>by cases hd;decide) (fun j hj=>by (obtain rfl:j=0:=(by omega));kernel_rfl) ?_
   intro f w' hG hfr hp K hK
   have g12:f 12 = .agg #[.slice ak nk ck,.int .i64 lack]:=hp 2 _ 12 rfl rfl (by kernel_rfl)
   clear hfr hp
   have hGw:WaitG g W0 (f 11) w':=hG
   go_simp
   refine (kept_to HVB.out hGw (HBO.out hGw) hw2 hbs HZZ.out).mono ?_
   rintro en w1 ⟨v,rfl,hkg⟩
   exact hK _ _ (fun _=>trivial) hkg
  ·refine StepPh.wr 2 rfl (by decide) rfl (fun d hd=>by cases hd;decide) (fun j hj=>by rcases (by omega:j=0∨j=1) with rfl|rfl<;>kernel_rfl) ?_
   intro f w' hG hfr hp K hK
   clear hfr hp
   have hGk:KeptG g bs lack W0 (f 13) w':=hG
   obtain ⟨p',n',c',g13,hkl⟩:=hGk.form
   go_simp
   exact hK _ _ (fun _=>trivial) (by show KeptL g bs lack W0 (f 13) _ w';rw [g13];exact hkl)
  ·refine StepPh.reg rfl (by decide) (fun d hd=>by cases hd;decide) ?_
   intro f w' p hG hup hdn hfr hp K hK
   clear hfr hp hup hdn
   go_simp
   exact hK _ _ rfl hG
 ·intro f w1 hG hfr hR
  refine hc _ _ ?_
  have q13:∃ l,l.Perm (waitsOf g.es)∧Sorted l∧WaitsAt w1 W0.heap.size (f 13) (cutLast (keepL l bs) lack)∧Below W0.heap.size W0 w1∧f 14 = .int .i64 ((cutLast (keepL l bs) lack).length:Nat):=hG
  have q15:f 15 = .int .i64 0:=hR 5 _ 15 rfl rfl
  have q0:f 0 = .pointer (some ⟨g.d,0,none⟩):=hfr 0 (by kernel_rfl)
  have q1:f 1 = .agg #[.slice ak nk ck,.int .i64 lack]:=hfr 1 (by kernel_rfl)
  have q2:f 2=undef:=hfr 2 (by kernel_rfl)
  have q3:f 3 = .pointer (some ⟨R,0,none⟩):=hfr 3 (by kernel_rfl)
  have q4:f 4=undef:=hfr 4 (by kernel_rfl)
  have q5:f 5=undef:=hfr 5 (by kernel_rfl)
  have q6:f 6=undef:=hfr 6 (by kernel_rfl)
  have q7:f 7=undef:=hfr 7 (by kernel_rfl)
  have q8:f 8 = .pointer (some ⟨g.d,0,none⟩):=hfr 8 (by kernel_rfl)
  have q9:f 9 = .bool false:=hfr 9 (by kernel_rfl)
  have q16:f 16=undef:=hfr 16 (by kernel_rfl)
  have q17:f 17=undef:=hfr 17 (by kernel_rfl)
  have q18:f 18=undef:=hfr 18 (by kernel_rfl)
  have q19:f 19=undef:=hfr 19 (by kernel_rfl)
  have q20:f 20=undef:=hfr 20 (by kernel_rfl)
  have q21:f 21=undef:=hfr 21 (by kernel_rfl)
  have q22:f 22=undef:=hfr 22 (by kernel_rfl)
  have q23:f 23=undef:=hfr 23 (by kernel_rfl)
  have q24:f 24=undef:=hfr 24 (by kernel_rfl)
  have q25:f 25=undef:=hfr 25 (by kernel_rfl)
  have q26:f 26=undef:=hfr 26 (by kernel_rfl)
  have q27:f 27=undef:=hfr 27 (by kernel_rfl)
  have q28:f 28=undef:=hfr 28 (by kernel_rfl)
  have q29:f 29=undef:=hfr 29 (by kernel_rfl)
  have q30:f 30=undef:=hfr 30 (by kernel_rfl)
  have q31:f 31=undef:=hfr 31 (by kernel_rfl)
  have q32:f 32=undef:=hfr 32 (by kernel_rfl)
  have q33:f 33=undef:=hfr 33 (by kernel_rfl)
  have q34:f 34=undef:=hfr 34 (by kernel_rfl)
  have q35:f 35=undef:=hfr 35 (by kernel_rfl)
  have q36:f 36=undef:=hfr 36 (by kernel_rfl)
  have q37:f 37=undef:=hfr 37 (by kernel_rfl)
  have q38:f 38=undef:=hfr 38 (by kernel_rfl)
  have q39:f 39=undef:=hfr 39 (by kernel_rfl)
  have q40:f 40=undef:=hfr 40 (by kernel_rfl)
  have q41:f 41=undef:=hfr 41 (by kernel_rfl)
  have q42:f 42=undef:=hfr 42 (by kernel_rfl)
  have q43:f 43=undef:=hfr 43 (by kernel_rfl)
  have q44:f 44=undef:=hfr 44 (by kernel_rfl)
  have q45:f 45=undef:=hfr 45 (by kernel_rfl)
  have q46:f 46=undef:=hfr 46 (by kernel_rfl)
  have q47:f 47=undef:=hfr 47 (by kernel_rfl)
  have q48:f 48=undef:=hfr 48 (by kernel_rfl)
  have q49:f 49=undef:=hfr 49 (by kernel_rfl)
  have q50:f 50=undef:=hfr 50 (by kernel_rfl)
  have q51:f 51=undef:=hfr 51 (by kernel_rfl)
  have q52:f 52=undef:=hfr 52 (by kernel_rfl)
  have q53:f 53=undef:=hfr 53 (by kernel_rfl)
  have q54:f 54=undef:=hfr 54 (by kernel_rfl)
  have q55:f 55=undef:=hfr 55 (by kernel_rfl)
  have q56:f 56=undef:=hfr 56 (by kernel_rfl)
  have q57:f 57=undef:=hfr 57 (by kernel_rfl)
  have q58:f 58=undef:=hfr 58 (by kernel_rfl)
  have q59:f 59=undef:=hfr 59 (by kernel_rfl)
  have q60:f 60=undef:=hfr 60 (by kernel_rfl)
  have q61:f 61=undef:=hfr 61 (by kernel_rfl)
  have q62:f 62=undef:=hfr 62 (by kernel_rfl)
  have q63:f 63=undef:=hfr 63 (by kernel_rfl)
  have q64:f 64=undef:=hfr 64 (by kernel_rfl)
  have q65:f 65=undef:=hfr 65 (by kernel_rfl)
  rw [show Fr 66 f=⟨#[f 0,f 1,f 2,f 3,f 4,f 5,f 6,f 7,f 8,f 9,f 10,f 11,f 12,f 13,f 14,f 15,f 16,f 17,f 18,f 19,f 20,f 21,f 22,f 23,f 24,f 25,f 26,f 27,f 28,f 29,f 30,f 31,f 32,f 33,f 34,f 35,f 36,f 37,f 38,f 39,f 40,f 41,f 42,f 43,f 44,f 45,f 46,f 47,f 48,f 49,f 50,f 51,f 52,f 53,f 54,f 55,f 56,f 57,f 58,f 59,f 60,f 61,f 62,f 63,f 64,f 65],[]⟩ from rfl]
  simp only [q0,q1,q2,q3,q4,q5,q6,q7,q8,q9,q16,q17,q18,q19,q20,q21,q22,q23,q24,q25,q26,q27,q28,q29,q30,q31,q32,q33,q34,q35,q36,q37,q38,q39,q40,q41,q42,q43,q44,q45,q46,q47,q48,q49,q50,q51,q52,q53,q54,q55,q56,q57,q58,q59,q60,q61,q62,q63,q64,q65,q15]
  clear q0 q1 q2 q3 q4 q5 q6 q7 q8 q9 q16 q17 q18 q19 q20 q21 q22 q23 q24 q25 q26 q27 q28 q29 q30 q31 q32 q33 q34 q35 q36 q37 q38 q39 q40 q41 q42 q43 q44 q45 q46 q47 q48 q49 q50 q51 q52 q53 q54 q55 q56 q57 q58 q59 q60 q61 q62 q63 q64 q65 hfr hR hG q15
  generalize f 10=u10,f 11=u11,f 12=u12,f 13=v13,f 14=v14 at *
  obtain ⟨l,hp,hso,hwa,hbl,rfl⟩:=q13
  obtain ⟨d,hd⟩:∃ d,d=cutLast (keepL l bs) lack:=⟨_,rfl⟩
  rw [←hd] at hwa ⊢
  obtain ⟨sk0,hsk⟩:∃ s,s=g.es.map skel:=⟨_,rfl⟩
  have hD1:DiskAt w1 g st:=(HG.out.new HNEW.out).new (Chg.of_below hbl)
  have hfl:∀ {x:World},DiskAt x g st→DiskAt x g { st with fs:=fsOf (imgs sk0 [])}:=fun hx=>by
   refine DiskAt.refs (st:=st) (fs:=st.fs) hx ?_
   show _=fsOf sk0
   rw [hsk,fsOf_skel]
  obtain ⟨pd,cd,hv13⟩:∃ p c,v13 = .slice p d.length c:=by
   rcases hwa.form with ⟨h1,h2⟩|⟨gg,cap,h1,_⟩
   ·exact ⟨none,0,by rw [h1,h2];rfl⟩
   ·exact ⟨_,_,h1⟩
  subst hv13
  obtain ⟨nd,hnd⟩:∃ n,n=d.length:=⟨_,rfl⟩
  rw [←hnd] at hwa ⊢
  have hsub:∀ z∈d,(∃ p∈sk0,p.2.1=z.to_)∧z.x.at_+z.x.s.size≤1099511627776:=fun z hz=>by
   rw [hd] at hz
   obtain ⟨y,hy,h1,h2,h3⟩:=keep_sub hz
   obtain ⟨e,he,h4,h5⟩:=waits_mem (hp.mem_iff.1 hy)
   refine ⟨⟨skel e,by rw [hsk];exact List.mem_map_of_mem he,by rw [←h1,←h4];rfl⟩,?_⟩
   have h6:nf e∈st.fs:=by rw [←HG.out.fs];exact List.mem_map_of_mem he
   have h7:=(HIN.out _ h6).2.2.2 y.x h5
   omega
  have hskin:SkIn sk0 1099511627776:=fun p hpm=>by
   rw [hsk] at hpm
   obtain ⟨e,he,rfl⟩:=List.mem_map.1 hpm
   exact HIN.out (nf e) (by rw [←HG.out.fs];exact List.mem_map_of_mem he)
  have hnd40:nd≤1099511627776:=by
   have h1:d.length≤(keepL l bs).length:=by
    rw [hd]
    rcases List.eq_nil_or_concat (keepL l bs) with h0|⟨d0,y,h0⟩
    ·rw [h0];exact Nat.le_refl _
    ·rw [List.concat_eq_append] at h0
     rw [h0,cutLast_snoc];simp
   have h2:=keepL_length l bs
   have h3:=hp.length_eq
   omega
  have HP:=Lib.hid hp
  have HSO:=Lib.hid hso
  have HWA:=Lib.hid hwa
  have HBL:=Lib.hid hbl
  have HDD:=Lib.hid hd
  have HSK:=Lib.hid hsk
  have HD1:=Lib.hid hD1
  have HFL:Hid (DiskAt w1 g { st with fs:=fsOf (imgs sk0 [])}):=hfl hD1
  have HND:=Lib.hid hnd
  have HSUB:=Lib.hid hsub
  have HSIN:=Lib.hid hskin
  clear hp hso hwa hbl hd hsk hD1 hfl hnd hsub hskin b0 b1
  go_wp2_with fail
  go_loopw [5,15] (fun _ i wr=>∃ k:Nat,k≤nd∧i = .int .i64 k∧∃ g1,DiskAt wr g1 { st with fs:=fsOf (imgs sk0 (d.take k))}∧g1.es.map skel=imgs sk0 (d.take k)∧Gh.To w1 g g1 wr) (fun _ i _=>nd - (intOf i).toNat)
  case atStart=>exact ⟨0,Nat.zero_le _,rfl,g,HFL.out,HSK.out.symm,Gh.To.refl _ _⟩
  case round=>
   obtain ⟨k,hk,rfl,g1,hdk,hsk1,hto⟩:=hrel
   have HDK:=Lib.hid hdk
   have HSK1:=Lib.hid hsk1
   have HTO:=Lib.hid hto
   clear HFL
   by_cases hlt:k<nd
   ·have hlt':k<d.length:=by rw [←HND.out];exact hlt
    obtain ⟨z,hz⟩:∃ z,d[k]? = some z:=⟨_,List.getElem?_eq_getElem hlt'⟩
    have hzm:=HSUB.out z (List.mem_of_getElem? hz)
    obtain ⟨gd,hpd,e0,e1c,e2,e3⟩:∃ gd,pd=some ⟨gd,0,none⟩∧wr.cell? ⟨gd,k*4,none⟩=some (.int .i64 z.x.turn)∧wr.cell? ⟨gd,k*4+1,none⟩=some (.int .i64 z.x.at_)∧wr.cell? ⟨gd,k*4+1+1,none⟩=some (.string z.x.s)∧wr.cell? ⟨gd,k*4+1+1+1,none⟩=some (.pointer (some ⟨z.to_,0,none⟩)):=by
     have hwa:WaitsAt w1 W0.heap.size (.slice pd d.length cd) d:=by rw [←HND.out];exact HWA.out
     rcases hwa.form with ⟨_,h2⟩|⟨gd,cap,h1,_,hge,_,h3⟩
     ·rw [h2] at hz;cases hz
     ·cases h1
      obtain ⟨c0,c1,c2,c3⟩:=h3 k z hz
      have hno:¬ gd∈g.fp:=fun hx=>by
       have:=HG.out.lt gd hx
       have:=HNEW.out.size
       omega
      exact ⟨gd,rfl,hto.chg.cell c0 hno,hto.chg.cell c1 hno,hto.chg.cell c2 hno,hto.chg.cell c3 hno⟩
    subst hpd
    obtain ⟨e1,hem,heb⟩:=ent_of (g1:=g1) (l:=sk0) (by rw [hsk1,blks_imgs]) hzm.1
    have htk:d.take (k+1)=d.take k ++ [z]:=by rw [List.take_add_one,hz,Option.toList_some]
    obtain ⟨⟨tn,at_,s⟩,pt⟩:=z
    simp only at heb
    subst heb
    have hgin:Within e1.f 1099511627776:=by
     have h1:=HSIN.out.imgs (d:=d.take k) (fun z hz'=>(HSUB.out z (List.mem_of_mem_take hz')).2)
     exact h1 (skel e1) (by rw [←hsk1];exact List.mem_map_of_mem hem)
    have ha:at_+s.size≤1099511627776:=hzm.2
    have hx:e1.f.image.length≤1099511627776:=hgin.1
    have HTK:=Lib.hid htk
    have HEM:=Lib.hid hem
    clear hdk hsk1 hto hz hzm htk hgin hlt'
    go_wp2_with fail
    rename_i Kc2 hc2
    have hE0:=HDK.out.ents e1 HEM.out
    have hC0:Chg (fun _=>False) wr (wr.alloc (.cells #[.int .i64 tn,.int .i64 at_,.string s,.pointer (some ⟨e1.blk,0,none⟩)] 89)):=Chg.alloc _ (Chg.refl _ _) _
    have hE:=hE0.chg hC0 (fun _ _ x=>x)
    have x1:(wr.alloc (.cells #[.int .i64 tn,.int .i64 at_,.string s,.pointer (some ⟨e1.blk,0,none⟩)] 89)).cell? ⟨wr.heap.size,1,none⟩=some (.int .i64 at_):=by simp
    have x2:(wr.alloc (.cells #[.int .i64 tn,.int .i64 at_,.string s,.pointer (some ⟨e1.blk,0,none⟩)] 89)).cell? ⟨wr.heap.size,2,none⟩=some (.string s):=by simp
    have x3:(wr.alloc (.cells #[.int .i64 tn,.int .i64 at_,.string s,.pointer (some ⟨e1.blk,0,none⟩)] 89)).cell? ⟨wr.heap.size,3,none⟩=some (.pointer (some ⟨e1.blk,0,none⟩)):=by simp
    generalize wr.alloc (.cells #[.int .i64 tn,.int .i64 at_,.string s,.pointer (some ⟨e1.blk,0,none⟩)] 89)=W2 at *
    obtain ⟨ys,hys⟩:∃ ys,ys=putB e1.f.image at_ s.data.toList:=⟨_,rfl⟩
    have HOB:Hid (e1.vi.ownBlock≠some wr.heap.size):=fun hx=>by have:=hE0.lt _ (mem_foot_vi e1 hx);omega
    have c1:=hE.cells.1
    have HE1:Hid (EntAt W2.drew e1):=hE.drew
    have HI:Hid (BytesAt W2.drew e1.vi e1.f.image):=hE.image
    have HC0:=Lib.hid hC0
    have HE0:=Lib.hid hE0
    have HY:=Lib.hid hys
    clear hE hC0 hys hE0 e0 e1c e2 e3
    refine region_ph (n:=66) 12 [13,16] rfl rfl (by kernel_rfl) (by kernel_rfl) (by kernel_rfl) (fun i v=>match i with|0=>v = .pointer (some ⟨wr.heap.size,3,none⟩)|1=>v = .pointer (some ⟨e1.blk,0,none⟩)|2=>v = .pointer (some ⟨wr.heap.size,3,none⟩)|3=>v = .pointer (some ⟨e1.blk,0,none⟩)|4=>v = .pointer (some ⟨e1.blk,0,none⟩)|5=>v = .pointer (some ⟨e1.blk,0,none⟩)|6=>v=e1.vi|7=>v = .pointer (some ⟨wr.heap.size,0,none⟩)|8=>v = .pointer (some ⟨wr.heap.size,1,none⟩)|9=>v = .int .i64 at_|10=>v = .pointer (some ⟨wr.heap.size,0,none⟩)|11=>v = .pointer (some ⟨wr.heap.size,2,none⟩)|12=>v = .string s|14=>v = .pointer (some ⟨e1.blk,0,none⟩)|15=>v = .pointer (some ⟨e1.blk,0,none⟩)|_=>True)
     (fun p f w'=>match p with|0=>W2.drew=w'|1=>PutW W2.drew e1.vi ys (f 32) w'|_=>∃ w1 v',PutW W2.drew e1.vi ys v' w1∧w1.setCell ⟨e1.blk,0,none⟩ v'=w') ?_ ?_ ?_
    ·exact rfl
    ·simp only [AllAt]
     refine ⟨?_,?_,?_,?_,?_,?_,?_,?_,?_,?_,?_,?_,?_,?_,?_,?_,?_,trivial⟩
     ·refine StepPh.reg rfl (by decide) (fun d hd=>by cases hd;decide) ?_
      intro f w' p hG hup hdn hfr hp K hK
      have g5:f 5 = .pointer (some ⟨wr.heap.size,0,none⟩):=hfr 5 (by kernel_rfl)
      clear hfr hp hup hdn
      go_simp
      exact hK _ _ rfl hG
     ·refine StepPh.reg rfl (by decide) (fun d hd=>by cases hd;decide) ?_
      intro f w' p hG hup hdn hfr hp K hK
      have g19:f 19 = .pointer (some ⟨wr.heap.size,3,none⟩):=hp 0 _ 19 rfl rfl (by kernel_rfl)
      have hpp:p=0∨p=1:=by have:=hdn 1 (by decide) (.inl (by kernel_rfl));omega
      clear hfr hp hup hdn
      rcases hpp with rfl|rfl
      ·have hGe:W2.drew=w':=hG
       subst hGe
       go_simp
       exact hK _ _ rfl hG
      ·have hGp:PutW W2.drew e1.vi ys (f 32) w':=hG
       have e3:=hGp.other HOB.out x3
       go_simp
       exact hK _ _ rfl hG
     ·refine StepPh.reg rfl (by decide) (fun d hd=>by cases hd;decide) ?_
      intro f w' p hG hup hdn hfr hp K hK
      have g5:f 5 = .pointer (some ⟨wr.heap.size,0,none⟩):=hfr 5 (by kernel_rfl)
      clear hfr hp hup hdn
      go_simp
      exact hK _ _ rfl hG
     ·refine StepPh.reg rfl (by decide) (fun d hd=>by cases hd;decide) ?_
      intro f w' p hG hup hdn hfr hp K hK
      have g21:f 21 = .pointer (some ⟨wr.heap.size,3,none⟩):=hp 2 _ 21 rfl rfl (by kernel_rfl)
      obtain rfl:p=0:=by have:=hdn 0 (by decide) (.inl (by kernel_rfl));omega
      have hGe:W2.drew=w':=hG
      subst hGe
      clear hfr hp hup hdn
      go_simp
      exact hK _ _ rfl hG
     ·refine StepPh.reg rfl (by decide) (fun d hd=>by cases hd;decide) ?_
      intro f w' p hG hup hdn hfr hp K hK
      have g22:f 22 = .pointer (some ⟨e1.blk,0,none⟩):=hp 3 _ 22 rfl rfl (by kernel_rfl)
      clear hfr hp hup hdn
      go_simp
      exact hK _ _ rfl hG
     ·refine StepPh.reg rfl (by decide) (fun d hd=>by cases hd;decide) ?_
      intro f w' p hG hup hdn hfr hp K hK
      have g23:f 23 = .pointer (some ⟨e1.blk,0,none⟩):=hp 4 _ 23 rfl rfl (by kernel_rfl)
      clear hfr hp hup hdn
      go_simp
      exact hK _ _ rfl hG
     ·refine StepPh.reg rfl (by decide) (fun d hd=>by cases hd;decide) ?_
      intro f w' p hG hup hdn hfr hp K hK
      have g24:f 24 = .pointer (some ⟨e1.blk,0,none⟩):=hp 5 _ 24 rfl rfl (by kernel_rfl)
      obtain rfl:p=0:=by have:=hdn 0 (by decide) (.inl (by kernel_rfl));omega
      have hGe:W2.drew=w':=hG
      subst hGe
      clear hfr hp hup hdn
      go_simp
      exact hK _ _ rfl hG
     ·refine StepPh.reg rfl (by decide) (fun d hd=>by cases hd;decide) ?_
      intro f w' p hG hup hdn hfr hp K hK
      have g5:f 5 = .pointer (some ⟨wr.heap.size,0,none⟩):=hfr 5 (by kernel_rfl)
      clear hfr hp hup hdn
      go_simp
      exact hK _ _ rfl hG
     ·refine StepPh.reg rfl (by decide) (fun d hd=>by cases hd;decide) ?_
      intro f w' p hG hup hdn hfr hp K hK
      have g26:f 26 = .pointer (some ⟨wr.heap.size,0,none⟩):=hp 7 _ 26 rfl rfl (by kernel_rfl)
      clear hfr hp hup hdn
      go_simp
      exact hK _ _ rfl hG
     ·refine StepPh.reg rfl (by decide) (fun d hd=>by cases hd;decide) ?_
      intro f w' p hG hup hdn hfr hp K hK
      have g27:f 27 = .pointer (some ⟨wr.heap.size,1,none⟩):=hp 8 _ 27 rfl rfl (by kernel_rfl)
      obtain rfl:p=0:=by have:=hdn 0 (by decide) (.inl (by kernel_rfl));omega
      have hGe:W2.drew=w':=hG
      subst hGe
      clear hfr hp hup hdn
      go_simp
      exact hK _ _ rfl hG
     ·refine StepPh.reg rfl (by decide) (fun d hd=>by cases hd;decide) ?_
      intro f w' p hG hup hdn hfr hp K hK
      have g5:f 5 = .pointer (some ⟨wr.heap.size,0,none⟩):=hfr 5 (by kernel_rfl)
      clear hfr hp hup hdn
      go_simp
      exact hK _ _ rfl hG
     ·refine StepPh.reg rfl (by decide) (fun d hd=>by cases hd;decide) ?_
      intro f w' p hG hup hdn hfr hp K hK
      have g29:f 29 = .pointer (some ⟨wr.heap.size,0,none⟩):=hp 10 _ 29 rfl rfl (by kernel_rfl)
      clear hfr hp hup hdn
      go_simp
      exact hK _ _ rfl hG
     ·refine StepPh.reg rfl (by decide) (fun d hd=>by cases hd;decide) ?_
      intro f w' p hG hup hdn hfr hp K hK
      have g30:f 30 = .pointer (some ⟨wr.heap.size,2,none⟩):=hp 11 _ 30 rfl rfl (by kernel_rfl)
      obtain rfl:p=0:=by have:=hdn 0 (by decide) (.inl (by kernel_rfl));omega
      have hGe:W2.drew=w':=hG
      subst hGe
      clear hfr hp hup hdn
      go_simp
      exact hK _ _ rfl hG
     ·refine StepPh.wr 0 rfl (by decide) rfl (fun d hd=>by cases hd;decide) (fun j hj=>by omega) ?_
      intro f w' hG hfr hp K hK
      have g25:f 25=e1.vi:=hp 6 _ 25 rfl rfl (by kernel_rfl)
      have g28:f 28 = .int .i64 at_:=hp 9 _ 28 rfl rfl (by kernel_rfl)
      have g31:f 31 = .string s:=hp 12 _ 31 rfl rfl (by kernel_rfl)
      clear hfr hp
      have hGe:W2.drew=w':=hG
      subst hGe
      go_simp
      refine (put_to HY.out (put_any e1.vi e1.f.image at_ s _ HI.out hx ha)).mono ?_
      rintro en w5 ⟨v',rfl,hb1,hg1,hl1⟩
      exact hK _ _ (fun _=>trivial) ⟨hb1,hg1,hl1⟩
     ·refine StepPh.reg rfl (by decide) (fun d hd=>by cases hd;decide) ?_
      intro f w' p hG hup hdn hfr hp K hK
      have g20:f 20 = .pointer (some ⟨e1.blk,0,none⟩):=hp 1 _ 20 rfl rfl (by kernel_rfl)
      clear hfr hp hup hdn
      go_simp
      exact hK _ _ rfl hG
     ·refine StepPh.reg rfl (by decide) (fun d hd=>by cases hd;decide) ?_
      intro f w' p hG hup hdn hfr hp K hK
      have g33:f 33 = .pointer (some ⟨e1.blk,0,none⟩):=hp 14 _ 33 rfl rfl (by kernel_rfl)
      clear hfr hp hup hdn
      go_simp
      exact hK _ _ rfl hG
     ·refine StepPh.wr 1 rfl (by decide) rfl (fun d hd=>by cases hd) (fun j hj=>by (obtain rfl:j=0:=(by omega));kernel_rfl) ?_
      intro f w' hG hfr hp K hK
      have g34:f 34 = .pointer (some ⟨e1.blk,0,none⟩):=hp 15 _ 34 rfl rfl (by kernel_rfl)
      clear hfr hp
      have hG1:PutW W2.drew e1.vi ys (f 32) w':=hG
      obtain ⟨p',c',g32⟩:=hG1.1.slice
      rw [g32] at hG1
      have hcell:=hG1.cell_vi HE1.out
      have hfz:=hG1.free_vi HE1.out
      go_simp
      exact hK undef _ (fun h=>by cases h) ⟨w',_,hG1,rfl⟩
    ·intro f w5 hG hfr hR
     refine hc2 _ _ ?_
     clear hR
     obtain ⟨wp,v',hP,rfl⟩:=hG
     have hF:=ent_set_image HE1.out hP.2.1 hP.1 (own_form hP.2.2)
     have q0:f 0 = .pointer (some ⟨g.d,0,none⟩):=hfr 0 (by kernel_rfl)
     have q1:f 1 = .agg #[.slice ak nk ck,.int .i64 lack]:=hfr 1 (by kernel_rfl)
     have q2:f 2=undef:=hfr 2 (by kernel_rfl)
     have q3:f 3 = .pointer (some ⟨R,0,none⟩):=hfr 3 (by kernel_rfl)
     have q4:f 4=undef:=hfr 4 (by kernel_rfl)
     have q5:f 5 = .pointer (some ⟨wr.heap.size,0,none⟩):=hfr 5 (by kernel_rfl)
     have q6:f 6=undef:=hfr 6 (by kernel_rfl)
     have q7:f 7=undef:=hfr 7 (by kernel_rfl)
     have q8:f 8 = .pointer (some ⟨g.d,0,none⟩):=hfr 8 (by kernel_rfl)
     have q9:f 9 = .bool false:=hfr 9 (by kernel_rfl)
     have q10:f 10=u10:=hfr 10 (by kernel_rfl)
     have q11:f 11=u11:=hfr 11 (by kernel_rfl)
     have q12:f 12=u12:=hfr 12 (by kernel_rfl)
     have q13:f 13 = .slice (some ⟨gd,0,none⟩) nd cd:=hfr 13 (by kernel_rfl)
     have q14:f 14 = .int .i64 nd:=hfr 14 (by kernel_rfl)
     have q15:f 15 = .int .i64 k:=hfr 15 (by kernel_rfl)
     have q36:f 36=undef:=hfr 36 (by kernel_rfl)
     have q37:f 37=undef:=hfr 37 (by kernel_rfl)
     have q38:f 38=undef:=hfr 38 (by kernel_rfl)
     have q39:f 39=undef:=hfr 39 (by kernel_rfl)
     have q40:f 40=undef:=hfr 40 (by kernel_rfl)
     have q41:f 41=undef:=hfr 41 (by kernel_rfl)
     have q42:f 42=undef:=hfr 42 (by kernel_rfl)
     have q43:f 43=undef:=hfr 43 (by kernel_rfl)
     have q44:f 44=undef:=hfr 44 (by kernel_rfl)
     have q45:f 45=undef:=hfr 45 (by kernel_rfl)
     have q46:f 46=undef:=hfr 46 (by kernel_rfl)
     have q47:f 47=undef:=hfr 47 (by kernel_rfl)
     have q48:f 48=undef:=hfr 48 (by kernel_rfl)
     have q49:f 49=undef:=hfr 49 (by kernel_rfl)
     have q50:f 50=undef:=hfr 50 (by kernel_rfl)
     have q51:f 51=undef:=hfr 51 (by kernel_rfl)
     have q52:f 52=undef:=hfr 52 (by kernel_rfl)
     have q53:f 53=undef:=hfr 53 (by kernel_rfl)
     have q54:f 54=undef:=hfr 54 (by kernel_rfl)
     have q55:f 55=undef:=hfr 55 (by kernel_rfl)
     have q56:f 56=undef:=hfr 56 (by kernel_rfl)
     have q57:f 57=undef:=hfr 57 (by kernel_rfl)
     have q58:f 58=undef:=hfr 58 (by kernel_rfl)
     have q59:f 59=undef:=hfr 59 (by kernel_rfl)
     have q60:f 60=undef:=hfr 60 (by kernel_rfl)
     have q61:f 61=undef:=hfr 61 (by kernel_rfl)
     have q62:f 62=undef:=hfr 62 (by kernel_rfl)
     have q63:f 63=undef:=hfr 63 (by kernel_rfl)
     have q64:f 64=undef:=hfr 64 (by kernel_rfl)
     have q65:f 65=undef:=hfr 65 (by kernel_rfl)
     rw [show Fr 66 f=⟨#[f 0,f 1,f 2,f 3,f 4,f 5,f 6,f 7,f 8,f 9,f 10,f 11,f 12,f 13,f 14,f 15,f 16,f 17,f 18,f 19,f 20,f 21,f 22,f 23,f 24,f 25,f 26,f 27,f 28,f 29,f 30,f 31,f 32,f 33,f 34,f 35,f 36,f 37,f 38,f 39,f 40,f 41,f 42,f 43,f 44,f 45,f 46,f 47,f 48,f 49,f 50,f 51,f 52,f 53,f 54,f 55,f 56,f 57,f 58,f 59,f 60,f 61,f 62,f 63,f 64,f 65],[]⟩ from rfl]
     simp only [q0,q1,q2,q3,q4,q5,q6,q7,q8,q9,q10,q11,q12,q13,q14,q15,q36,q37,q38,q39,q40,q41,q42,q43,q44,q45,q46,q47,q48,q49,q50,q51,q52,q53,q54,q55,q56,q57,q58,q59,q60,q61,q62,q63,q64,q65]
     clear q0 q1 q2 q3 q4 q5 q6 q7 q8 q9 q10 q11 q12 q13 q14 q15 q36 q37 q38 q39 q40 q41 q42 q43 q44 q45 q46 q47 q48 q49 q50 q51 q52 q53 q54 q55 q56 q57 q58 q59 q60 q61 q62 q63 q64 q65 hfr hP
     have HF:=Lib.hid hF
     clear hF
     generalize wp.setCell ⟨e1.blk,0,none⟩ v'=W5 at *
     generalize f 16=u16,f 17=u17,f 18=u18
     go_wp2_with fail
     have hu:=HDK.out.upd HEM.out ((Ent.To.new HE0.out HC0.out.drew).trans HF.out)
     have hsk2:(setE g1.es { e1 with vi:=v',f:={ e1.f with image:=ys }}).map skel=imgs sk0 (d.take (k+1)):=by
      rw [HTK.out,imgs_snoc,←HSK1.out]
      exact setE_img (e':={ e1 with vi:=v',f:={ e1.f with image:=ys }}) HDK.out HEM.out rfl rfl ⟨tn,at_,s⟩ (by rw [HY.out];rfl)
     refine ⟨⟨k+1,by omega,by go_num,_,DiskAt.refs (st:=st) hu.1 ?_,hsk2,HTO.out.trans hu.2⟩,by simp [intOf];omega⟩
     rw [←hsk2,fsOf_skel]
   ·have hkn:k=nd:=by omega
    have hdk2:=HDK.out
    have hsk2:=HSK1.out
    rw [hkn,HND.out,List.take_length] at hdk2 hsk2
    have hgd:=HTO.out.d
    obtain ⟨sk,hskd⟩:∃ s,s=imgs sk0 d:=⟨_,rfl⟩
    rw [←hskd] at hdk2 hsk2
    have htot:sumL g1.es≤1099511627776:=by
     have h1:=HSUM.out l HP.out HSO.out
     rw [←HDD.out,←HSK.out,←hskd,←hsk2,List.map_map] at h1
     exact h1
    have HSKD:=Lib.hid hskd
    have HTOT:=Lib.hid htot
    obtain ⟨_,_,_,_,d4,_,d6,dz⟩:=hdk2.cells
    have z4:=dz 4
    rw [hgd] at d4 d6 z4
    have hs0:=hdk2.set 4 (.int .i64 0) { st with fs:=fsOf sk,size:=0 } rfl rfl
    rw [hgd] at hs0
    have e6:=hs0.1.cells.2.2.2.2.2.2.1
    rw [hgd] at e6
    have HS0:=Lib.hid hs0
    have HSK2:=Lib.hid hsk2
    have HGD:=Lib.hid hgd
    clear hkn hdk2 hsk2 hgd hskd htot dz hs0
    have hwi:SkIn sk 1099511627776:=by rw [HSKD.out];exact HSIN.out.imgs (fun z hz=>(HSUB.out z hz).2)
    have HWI:=Lib.hid hwi
    clear hwi
    obtain ⟨R2,hR2⟩:∃ R,R=wr.heap.size:=⟨_,rfl⟩
    have HR2:=Lib.hid hR2
    have hsz2:(wr.setCell ⟨g.d,4,none⟩ (.int .i64 0)).heap.size=R2:=by rw [hR2];simp [World.setCell]
    have HSZ2:=Lib.hid hsz2
    clear hR2 hsz2
    go_wp2_with (at_range;refine wpList_range_ents rfl _ rfl g1.mb g1.es rfl HS0.out.1.map ?_;intro wb cntb hrgb hgb hsb)
    rw [HSZ2.out] at hrgb hsb
    rw [←HR2.out]
    try go_frame
    have HRGB:=Lib.hid hrgb
    have HDB:Hid (DiskAt wb g1 { st with fs:=fsOf sk,size:=0 }):=HS0.out.1.new (Chg.of_grown (S:=fun _=>False) hgb (fun _ hk=>by cases hk))
    have HTB:Hid (Gh.To w1 g g1 wb):=(HTO.out.trans HS0.out.2).trans (Gh.To.new g1 (Chg.of_grown (S:=fun _=>False) hgb (fun _ hk=>by cases hk)))
    have HSB:=Lib.hid hsb
    have HNR:Hid (R2∉g1.fp):=fun hx=>by
     have:=HS0.out.1.lt R2 hx
     rw [HSZ2.out] at this
     omega
    clear hrgb hgb hsb
    go_loopw [7] (fun _ wr=>∃ vis rem cnt g2,RangeIn wr g1.mb R2 g1.es vis rem cnt∧DiskAt wr g2 { st with fs:=g2.es.map nf,size:=sumL vis }∧g2.es.map skel=(g1.es.map skel).map (loseIf vis)∧g2.mb=g1.mb∧R2∉g2.fp∧wb.heap.size≤wr.heap.size∧Gh.To w1 g g2 wr) (fun _ wr=>toCome g1.mb wr R2)
    case atStart=>
     refine ⟨[],_,_,g1,HRGB.out,?_,?_,rfl,HNR.out,Nat.le_refl _,HTB.out⟩
     ·have:=HDB.out
      have h2:=this.fs
      simp only at h2
      rw [←h2] at this
      exact this
     ·refine ((List.map_congr_left fun p _=>?_).trans (List.map_id _)).symm
      unfold loseIf
      simp
    case round=>
     obtain ⟨wr_,hwr_⟩:∃ x:World,x=wr:=⟨_,rfl⟩
     subst hwr_
     obtain ⟨vis,rem,cnt,g2,hrg,hdx,hskx,hmbx,hnr2,hwbs,htx⟩:=hrel
     have HWBS:=Lib.hid hwbs
     have HRG1:=Lib.hid hrg
     have HDX:=Lib.hid hdx
     have HSKX:=Lib.hid hskx
     have HMBX:=Lib.hid hmbx
     have HTX:=Lib.hid htx
     have hgdx:g2.d=g.d:=htx.d
     have HNR2:=Lib.hid hnr2
     have HGDX:=Lib.hid hgdx
     clear hrg hdx hskx hmbx htx hgdx hnr2 hwbs HRGB
     go_wp2_with (at_next;refine wpList_next_ents rfl _ rfl g1.mb R2 g1.es vis rem cnt rfl HRG1.out ?cd ?cm)
     case cd=>
      intro hrem
      have hpv:vis.Perm g1.es:=by
       have:=HRG1.out
       rw [hrem] at this
       exact this.done
      have HPV:=Lib.hid hpv
      obtain ⟨_,_,_,_,_,_,_,dz⟩:=HDX.out.cells
      rw [HGDX.out] at dz
      obtain ⟨y0,y1,y2,_⟩:=HDX.out.cells
      rw [HGDX.out] at y0 y1 y2
      have z0:=dz 0
      have z1:=dz 1
      have z2:=dz 2
      clear hrem hpv dz
      go_wp2_with fail
      go_end0
      have hfin:g2.es.map nf=sk.map fun p=>(p.1,loseF p.2.2):=by
       rw [←fsOf_skel,HSKX.out,HSK2.out]
       unfold fsOf
       rw [List.map_map]
       refine List.map_congr_left fun p hp=>?_
       rw [←HSK2.out] at hp
       obtain ⟨y,hy,rfl⟩:=List.mem_map.1 hp
       have h1:loseIf vis (skel y)=((skel y).1,(skel y).2.1,loseF (skel y).2.2):=if_pos (List.mem_map_of_mem (HPV.out.mem_iff.2 hy))
       simp only [Function.comp,h1]
      have hsz:(sk.map fun p=>(loseF p.2.2).bytes.length).sum=sumL vis:=by
       rw [←HSK2.out,List.map_map]
       exact (sumL_perm HPV.out).symm
      have hcs:crashS st (imgs (g.es.map skel) (cutLast (keepL l bs) lack))=⟨false,false,0,st.cap,sumL vis,st.turn,g2.es.map nf⟩:=by
       rw [←HDD.out,←HSK.out,←HSKD.out]
       unfold crashS
       rw [hsz,hfin]
      have s1:=HDX.out.set 0 (.bool false) { st with lit:=false,fs:=g2.es.map nf,size:=sumL vis } rfl rfl
      have s2:=s1.1.set 1 (.bool false) { st with lit:=false,down:=false,fs:=g2.es.map nf,size:=sumL vis } rfl rfl
      have s3:=s2.1.set 2 (.int .i64 0) { st with lit:=false,down:=false,left:=0,fs:=g2.es.map nf,size:=sumL vis } rfl rfl
      rw [HGDX.out] at s1 s2 s3
      refine ⟨rfl,l,g2,HP.out,HSO.out,?_,?_⟩
      ·rw [hcs];exact s3.1
      ·exact (((((Gh.To.new g HNEW.out).trans (Gh.To.new g (Chg.of_below HBL.out))).trans HTX.out).trans s1.2).trans s2.2).trans s3.2
     case cm=>
      intro e r1 r2 w2 cnt2 hrem hmb hrg2 hlt hg2 hs2 hen
      obtain ⟨m,hm⟩:∃ m,g1.mb=some m:=by
       cases hq:g1.mb with
       | none=>exact absurd hq hmb
       | some m=>exact ⟨m,rfl⟩
      have hp:=HRG1.out.perm
      rw [hrem] at hp
      have hem:e∈g1.es:=hp.mem_iff.1 (List.mem_append_right _ (List.mem_append_right _ (List.mem_cons_self ..)))
      have hR2b:R2<wb.heap.size:=by rw [HSB.out];exact Nat.lt_succ_self _
      have hR1:w1.heap.size≤R2:=by rw [HR2.out];exact HTO.out.chg.size
      have hnr2:=HNR2.out
      have hR2w:R2<w2.heap.size:=by rw [hs2];exact Nat.lt_of_lt_of_le hR2b HWBS.out
      have hwb2:wb.heap.size≤w2.heap.size:=by rw [hs2];exact HWBS.out
      have HWB2:=Lib.hid hwb2
      have hch:Chg (fun k=>k=R2) wr_ w2:=Chg.of_grown hg2 (fun k hk _=>by cases hk;rfl)
      have ht2:Gh.To w1 g g2 w2:=⟨HTX.out.chg.trans hch (fun i hi hx=>by omega),HTX.out.fp,HTX.out.d⟩
      have hd2:DiskAt w2 g2 { st with fs:=g2.es.map nf,size:=sumL vis }:=HDX.out.chg hch (fun k hk hx=>hnr2 (hx▸hk))
      have hnv:e.blk∉vis.map (·.blk):=fun hx=>by
       obtain ⟨y,hy,hyb⟩:=List.mem_map.1 hx
       have hym:y∈g1.es:=hp.mem_iff.1 (List.mem_append_left _ hy)
       have hye:=blk_one HDB.out hym hem hyb
       have hnd2:(names (vis ++ (r1 ++ e :: r2))).Nodup:=((hp.map (fun e:Ent=>e.name)).nodup_iff).2 HDB.out.map.1
       unfold names at hnd2
       rw [List.map_append,List.nodup_append] at hnd2
       exact hnd2.2.2 _ (List.mem_map_of_mem hy) e.name (List.mem_map_of_mem (List.mem_append_right _ (List.mem_cons_self ..))) (by rw [hye])
      have hbl:blksOf (g2.es.map skel)=blksOf (g1.es.map skel):=by
       rw [HSKX.out]
       unfold blksOf
       rw [List.map_map]
       refine List.map_congr_left fun p _=>?_
       simp only [Function.comp,loseIf]
       split<;>rfl
      obtain ⟨e2,he2,heb⟩:=ent_of hbl ⟨skel e,List.mem_map_of_mem hem,rfl⟩
      have heb:e2.blk=e.blk:=heb
      have hse:skel e2=skel e:=by
       have h1:skel e2∈(g1.es.map skel).map (loseIf vis):=by rw [←HSKX.out];exact List.mem_map_of_mem he2
       obtain ⟨q,hq,hqe⟩:=List.mem_map.1 h1
       obtain ⟨y,hy,rfl⟩:=List.mem_map.1 hq
       have h2:y.blk=e.blk:=by
        have h3:=congrArg (fun p:Sk=>p.2.1) hqe
        simp only [loseIf_blk] at h3
        have h4:y.blk=e2.blk:=h3
        rw [h4];exact heb
       have h5:=blk_one HDB.out hy hem h2
       rw [←hqe,h5]
       exact if_neg hnv
      have hef:e2.f=e.f:=congrArg (fun p:Sk=>p.2.2) hse
      have hwin:Within e2.f 1099511627776:=by
       rw [hef]
       exact HWI.out (skel e) (by rw [←HSK2.out];exact List.mem_map_of_mem hem)
      have hlo:=lose_any e2 w2 (hd2.ents e2 he2) hwin
      rw [heb] at hlo
      have hsumv:sumL vis+(loseF e.f).bytes.length≤1099511627776:=by
       have h1:=sumL_perm hp
       rw [sumL_append,sumL_append] at h1
       have h2:sumL (e :: r2)=(loseF e.f).bytes.length+sumL r2:=rfl
       have h3:=HTOT.out
       omega
      have hme:cnt2<toCome g1.mb wr_ R2:=by
       have h2:=HRG1.out
       rw [hm] at h2 ⊢
       rw [h2.toCome]
       exact hlt
      have HLO:=Lib.hid hlo
      have HD2:=Lib.hid hd2
      have HE2:=Lib.hid he2
      have HEB:=Lib.hid heb
      have HEF:=Lib.hid hef
      have HNV:=Lib.hid hnv
      have HR2W:=Lib.hid hR2w
      have HT2:=Lib.hid ht2
      have HRG2:=Lib.hid hrg2
      have HME:=Lib.hid hme
      have HM:=Lib.hid hm
      have HCH:=Lib.hid hch
      have HSE:=Lib.hid hse
      clear hp hrem hmb hrg2 hlt hg2 hs2 hem hch hd2 hnv hbl hwin hlo hme hm heb hef he2 hse
      go_wp2_with (go_at_call 39;refine HLO.out.mono ?_)
      rintro en w3 ⟨rfl,e3,hf3,ht3⟩
      have hu:=HD2.out.upd HE2.out ht3
      have HU:=Lib.hid hu
      have HF3:=Lib.hid hf3
      have HT3:=Lib.hid ht3
      clear hu hf3 ht3
      have hgd3:({ g2 with es:=setE g2.es e3 }:Gh).d=g.d:=HGDX.out
      have d4:=HU.out.1.cells.2.2.2.2.1
      have z4:=HU.out.1.cells.2.2.2.2.2.2.2 4
      rw [hgd3] at d4 z4
      have q1:=HT3.out.at_.cells.2.1
      rw [HT3.out.blk,HEB.out] at q1
      obtain ⟨pb,cb,hvb⟩:=HT3.out.at_.bytes.slice
      obtain ⟨ln,hln⟩:∃ n,n=(loseF e.f).bytes.length:=⟨_,rfl⟩
      rw [hvb,HF3.out,HEF.out,←hln] at q1
      have hsu:sumL vis+ln≤1099511627776:=by rw [hln];exact hsumv
      have hwr:IntKind.i64.wrap ((sumL vis:Int)+(ln:Int))=((sumL vis+ln:Nat):Int):=by
       rw [IntWalk.i64_in _ (by omega)];omega
      have HLN:=Lib.hid hln
      clear hgd3 hvb hsumv hln
      go_wp2_with fail
      go_still_tail 12,(by kernel_rfl)
      change wpList _ _ _ _ _ w3.drew
      clear q1 d4 z4
      have hd5:=HU.out.1
      have z5:=hd5.drew.cells.2.2.2.2.2.2.2 4
      have hgd3:({ g2 with es:=setE g2.es e3 }:Gh).d=g.d:=HGDX.out
      have d5:=hd5.drew.cells.2.2.2.2.1
      rw [hgd3] at z5 d5
      have HD5:=Lib.hid hd5
      have hrg5:=HRG2.out
      rw [HM.out] at hrg5
      have hap:=HD2.out.apart
      unfold Gh.fp at hap
      rw [HMBX.out.trans HM.out,List.nodup_cons,List.nodup_append] at hap
      have hmd:¬ m=g.d:=fun hx=>hap.1 (List.mem_append_left _ (by rw [HGDX.out,←hx];simp))
      have hme:¬ m∈e2.foot:=fun hx=>hap.2.2.2 m (by simp) m (List.mem_flatMap.2 ⟨e2,HE2.out,hx⟩) rfl
      have hrd:¬ R2=g.d:=fun hx=>HNR2.out (by rw [hx,←HGDX.out];exact mem_fp_d g2)
      have hrg6:RangeIn w3 (some m) R2 g1.es (vis ++ [e]) (r1 ++ r2) cnt2:=hrg5.kept HT3.out.chg hme (fun hx=>HNR2.out (mem_fp_ent g2 HE2.out hx))
      have hs5:DiskAt (w3.setCell ⟨g.d,4,none⟩ (.int .i64 ((sumL vis:Int)+ln))) { g2 with es:=setE g2.es e3 } { st with fs:=(setE g2.es e3).map nf,size:=sumL vis+ln }∧Gh.To w3 { g2 with es:=setE g2.es e3 } { g2 with es:=setE g2.es e3 } (w3.setCell ⟨g.d,4,none⟩ (.int .i64 ((sumL vis:Int)+ln))):=by
       rw [←HGDX.out]
       exact HD5.out.set 4 (.int .i64 ((sumL vis:Int)+ln)) { st with fs:=(setE g2.es e3).map nf,size:=sumL vis+ln } HD5.out.fs (by
        rw [show ((sumL vis:Int)+(ln:Int))=((sumL vis+ln:Nat):Int) by omega];rfl)
      have hrg7:RangeIn (w3.setCell ⟨g.d,4,none⟩ (.int .i64 ((sumL vis:Int)+ln))).drew (some m) R2 g1.es (vis ++ [e]) (r1 ++ r2) cnt2:=
       hrg6.kept (S:=fun k=>k=g.d) (Chg.setCell (S:=fun k=>k=g.d) (Chg.refl _ _) (fun _=>rfl) _).drew hmd hrd
      have HS5:=Lib.hid hs5
      have HRG7:=Lib.hid hrg7
      clear hd5 hgd3 hrg5 hap hmd hme hrd hrg6 hs5 hrg7
      go_wp2_with fail
      refine ⟨⟨vis ++ [e],r1 ++ r2,cnt2,{ g2 with es:=setE g2.es e3 },?_,?_,?_,HMBX.out,?_,?_,?_⟩,?_⟩
      ·rw [HM.out];exact HRG7.out
      ·have hq:sumL (vis ++ [e])=sumL vis+ln:=by
        have h1:sumL [e]=(loseF e.f).bytes.length:=Nat.add_zero _
        rw [sumL_append,HLN.out,h1]
       rw [hq]
       exact HS5.out.1.drew
      ·rw [setE_at HD2.out HE2.out HT3.out.name HT3.out.blk loseF HF3.out,HSKX.out,List.map_map,HEB.out]
       exact List.map_congr_left fun p _=>loseIf_snoc HNV.out p
      ·intro hx
       rcases HU.out.2.fp R2 hx with h1|h1
       ·exact HNR2.out h1
       ·have:=HR2W.out
        omega
      ·exact Nat.le_trans HWB2.out (Nat.le_trans HU.out.2.chg.size (HS5.out.2.trans (Gh.To.new _ (Chg.refl _ _).drew)).chg.size)
      ·exact ((HT2.out.trans HU.out.2).trans HS5.out.2).trans (Gh.To.new _ (Chg.refl _ _).drew)
      ·have h1:=HME.out
       rw [HM.out] at h1 ⊢
       rw [HRG7.out.toCome]
       exact h1
end Go.Proofs.YtnemlgfldfedpaaGreatDoor
namespace Go.Proofs.YtnemlgfldfedpaaGreatDoor
open Go.RowKit Go.Deep
attribute [local go_sem] fr_opt
end Go.Proofs.YtnemlgfldfedpaaGreatDoor
