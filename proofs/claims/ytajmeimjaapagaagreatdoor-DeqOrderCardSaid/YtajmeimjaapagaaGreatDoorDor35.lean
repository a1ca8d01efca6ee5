/- A part. -/
import Derived.Test.YtajmeimjaapagaaGreatDoorDor2
import Derived.Test.YtajmeimjaapagaaGreatDoorDor11
import Derived.Test.YtajmeimjaapagaaGreatDoorDor30
set_option linter.unusedVariables false
set_option linter.unusedSimpArgs false
namespace Go.Proofs.YtajmeimjaapagaaGreatDoor
open Go.RowKit Go.Deep
open Go.Sort (grow putRow Holds putCells PermIn SortedIn)
attribute [local go_sem] fr_opt
theorem pret_of {a b:Int} (h:a=b):Ending.returned (.int .i64 a) = .returned (.int .i64 b):=by rw [h]
theorem isnan_int (a:Int) (w:World):Calls Tryz.prog 98 #[.int .i64 a] w fun e w'=>e = .returned (.bool false)∧w=w':=by
 go_enter Tryz.func98,Tryz.ntmps98
 go_wp2_with fail
 go_ret
 exact ⟨by simp,rfl⟩
def cmpN (a b:Int):Int:=if a<b then -1 else if b<a then 1 else 0
set_option maxRecDepth 100000 in
theorem compare_int (a b:Int) (w:World):Calls Tryz.prog 60 #[.int .i64 a,.int .i64 b] w fun e w'=>e = .returned (.int .i64 (cmpN a b))∧w=w':=by
 by_cases h1:a<b
 ·go_enter Tryz.func60,Tryz.ntmps60
  go_wp2_with (go_at_call 98;refine (isnan_int _ _).mono ?_;rintro e w' ⟨rfl,rfl⟩)
  go_ret
  exact ⟨pret_of (by unfold cmpN;rw [if_pos (by omega)]),rfl⟩
 ·by_cases h2:b<a
  ·go_enter Tryz.func60,Tryz.ntmps60
   go_wp2_with (go_at_call 98;refine (isnan_int _ _).mono ?_;rintro e w' ⟨rfl,rfl⟩)
   go_ret
   exact ⟨pret_of (by unfold cmpN;rw [if_neg (by omega),if_pos (by omega)]),rfl⟩
  ·go_enter Tryz.func60,Tryz.ntmps60
   go_wp2_with (go_at_call 98;refine (isnan_int _ _).mono ?_;rintro e w' ⟨rfl,rfl⟩)
   go_ret
   exact ⟨pret_of (by unfold cmpN;rw [if_neg (by omega),if_neg (by omega)]),rfl⟩
def orN (x y:Int):Int:=if x=0 then y else x
set_option maxRecDepth 100000 in
theorem or_two (b:Nat) (x y:Int) (w:World) (h0:w.cell? ⟨b,0,none⟩=some (.int .i64 x)) (h1:w.cell? ⟨b,1,none⟩=some (.int .i64 y)) :
 Calls Tryz.prog 59 #[.slice (some ⟨b,0,none⟩) 2 2] w fun e w'=>e = .returned (.int .i64 (orN x y))∧∃ q,w'=w.drewN q:=by
 obtain ⟨r,hr⟩:∃ r,r=orN x y:=⟨_,rfl⟩
 rw [←hr]
 have HR:=Lib.hid hr
 clear hr
 go_enter Tryz.func59,Tryz.ntmps59
 go_wp2_with fail
 go_loopw [8] (fun i wr=>∃ k:Nat,k≤2∧i = .int .i64 (k:Int)∧(0<k→x=0)∧(1<k→y=0)∧∃ q,wr=w.drewN q) (fun i _=>2 - (intOf i).toNat)
 case atStart=>exact ⟨0,by omega,rfl,fun h=>absurd h (by omega),fun h=>absurd h (by omega),0,rfl⟩
 case round=>
  obtain ⟨k,hk,rfl,hx,hy,q,rfl⟩:=hrel
  have hk3:k=0∨k=1∨k=2:=by omega
  have e0:(w.drewN q).cell? ⟨b,0,none⟩=some (.int .i64 x):=h0
  have e1:(w.drewN q).cell? ⟨b,1,none⟩=some (.int .i64 y):=h1
  clear h0 h1
  rcases hk3 with rfl|rfl|rfl
  ·by_cases hz:x=0
   ·subst hz
    go_wp2_with fail
    exact ⟨⟨1,by omega,by go_num,(by first|exact fun _=>trivial|exact fun _=>rfl),fun h=>absurd h (by omega),_,rfl⟩,by simp [intOf]⟩
   ·go_wp2_with fail
    go_ret
    exact ⟨pret_of (by rw [HR.out];unfold orN;rw [if_neg hz]),_,rfl⟩
  ·by_cases hz:y=0
   ·subst hz
    go_wp2_with fail
    exact ⟨⟨2,by omega,by go_num,fun _=>hx (by omega),(by first|exact fun _=>trivial|exact fun _=>rfl),_,rfl⟩,by simp [intOf]⟩
   ·go_wp2_with fail
    go_ret
    exact ⟨pret_of (by rw [HR.out];unfold orN;rw [if_pos (hx (by omega))]),_,rfl⟩
  ·go_wp2_with fail
   go_ret
   exact ⟨pret_of (by rw [HR.out];unfold orN;rw [if_pos (hx (by omega)),hy (by omega)]),_,rfl⟩
def Gr (w w':World):Prop:=∃ q os,w'=grow (w.drewN q) os
theorem Gr.refl (w:World):Gr w w:=⟨0,#[],by simp [grow];rfl⟩
theorem Gr.alloc {w w':World} (h:Gr w w') (o:Obj):Gr w (w'.alloc o):=by
 obtain ⟨q,os,rfl⟩:=h
 exact ⟨q,_,by rw [Go.Sort.alloc_eq_grow,Go.Sort.grow_grow]⟩
theorem Gr.drewN {w w':World} (h:Gr w w') (k:Nat):Gr w (w'.drewN k):=by
 obtain ⟨q,os,rfl⟩:=h
 exact ⟨q+k,os,by simp [World.drewN,grow,Nat.add_assoc]⟩
theorem Gr.drew {w w':World} (h:Gr w w'):Gr w w'.drew:=h.drewN 1
theorem Gr.chg {w w':World} (h:Gr w w'):Chg (fun _=>False) w w':=by
 obtain ⟨q,os,rfl⟩:=h
 refine ⟨rfl,rfl,rfl,by simp [grow,World.drewN],fun k hk _=>?_⟩
 rw [Go.Sort.heap_grow_old _ _ (by simpa [World.drewN] using hk)]
 rfl
theorem cmpN_neg {a b:Int}:cmpN a b<0↔a<b:=by
 unfold cmpN
 by_cases h1:a<b
 ·simp [h1]
 ·by_cases h2:b<a<;>simp [h1,h2]
abbrev NId:Type:={a:Int // (Lit.int .i64 a).wf=true}
instance:Inhabited NId:=⟨⟨0,by decide⟩⟩
def nenc (x:NId):Value:=.int .i64 x.1
def pOrd (M:PM) (a b:NId):Int:=orN (cmpN (dueP M a.1) (dueP M b.1)) (cmpN a.1 b.1)
def pLess (M:PM) (a b:NId):Prop:=dueP M a.1<dueP M b.1∨(dueP M a.1=dueP M b.1∧a.1<b.1)
theorem cmpN_zero {a b:Int}:cmpN a b=0↔a=b:=by
 unfold cmpN
 by_cases h1:a<b
 ·simp [h1];omega
 ·by_cases h2:b<a
  ·simp [h1,h2];omega
  ·simp [h1,h2];omega
theorem pOrd_lt (M:PM) (a b:NId):Go.Proofs.ltOf (pOrd M) a b=true↔pLess M a b:=by
 unfold Go.Proofs.ltOf pOrd orN pLess
 rw [decide_eq_true_iff]
 by_cases h:cmpN (dueP M a.1) (dueP M b.1)=0
 ·rw [if_pos h,cmpN_neg]
  have h2:=cmpN_zero.1 h
  rw [h2]
  constructor
  ·intro h3;exact .inr ⟨rfl,h3⟩
  ·rintro (h3|h3)
   ·omega
   ·exact h3.2
 ·rw [if_neg h,cmpN_neg]
  constructor
  ·intro h3;exact .inl h3
  ·rintro (h3|h3)
   ·exact h3
   ·exact absurd (cmpN_zero.2 h3.1) h
theorem pord_swo (M:PM):Go.Sort.SWO (Go.Proofs.ltOf (pOrd M)) where
 irrefl x:=by
  rw [Bool.eq_false_iff]
  intro h
  rcases (pOrd_lt M x x).1 h with h|h<;>omega
 trans x y z h1 h2:=(pOrd_lt M x z).2 (by
  have g1:=(pOrd_lt M x y).1 h1
  have g2:=(pOrd_lt M y z).1 h2
  unfold pLess at *
  omega)
 ntrans x y z h1 h2:=by
  rw [Bool.eq_false_iff] at *
  intro h
  have h3:=(pOrd_lt M _ _).1 h
  have n1:¬ pLess M x y:=fun hx=>h1 ((pOrd_lt M _ _).2 hx)
  have n2:¬ pLess M y z:=fun hx=>h2 ((pOrd_lt M _ _).2 hx)
  unfold pLess at *
  omega
set_option maxHeartbeats 2000000 in
set_option maxRecDepth 100000 in
theorem pclosure_any {W:World} {sb m T:Nat} {M:PM} (h:PeI W sb m M) (hT:W.cell? ⟨T,0,none⟩=some (.pointer (some ⟨sb,0,none⟩))) (a b:NId) :
 Calls Tryz.prog 58 #[nenc a,nenc b,.pointer (some ⟨T,0,none⟩)] W fun e w'=>e = .returned (.int .i64 (pOrd M a b))∧∃ q os',w'=grow (W.drewN q) os':=by
 obtain ⟨a,ha⟩:=a
 obtain ⟨b,hb⟩:=b
 unfold nenc pOrd
 dsimp only
 have HDA:Hid (∀ W',PeI W' sb m M→Calls Tryz.prog 61 #[.pointer (some ⟨sb,0,none⟩),.int .i64 a] W' fun e w'=>e = .returned (.int .i64 (dueP M a))∧W'=w'):=Lib.hid fun W' h'=>pdue_any h' a ha
 have HDB:Hid (∀ W',PeI W' sb m M→Calls Tryz.prog 61 #[.pointer (some ⟨sb,0,none⟩),.int .i64 b] W' fun e w'=>e = .returned (.int .i64 (dueP M b))∧W'=w'):=Lib.hid fun W' h'=>pdue_any h' b hb
 obtain ⟨da,hda⟩:∃ x,x=dueP M a:=⟨_,rfl⟩
 obtain ⟨db,hdb⟩:∃ x,x=dueP M b:=⟨_,rfl⟩
 rw [←hda,←hdb]
 rw [←hda] at HDA
 rw [←hdb] at HDB
 have hi:=fun W'=>compare_int da db W'
 have hj:=fun W'=>compare_int a b W'
 obtain ⟨x,hx⟩:∃ x,x=cmpN da db:=⟨_,rfl⟩
 obtain ⟨y,hy⟩:∃ y,y=cmpN a b:=⟨_,rfl⟩
 rw [←hx] at hi ⊢
 rw [←hy] at hj ⊢
 have ho:=fun b W'=>or_two b x y W'
 obtain ⟨r,hr⟩:∃ r,r=orN x y:=⟨_,rfl⟩
 rw [←hr] at ho ⊢
 have HI:=Lib.hid hi
 have HJ:=Lib.hid hj
 have HO:=Lib.hid ho
 have HPI:Hid (∀ W',Gr W W'→PeI W' sb m M):=Lib.hid fun W' hW=>h.new hW.chg
 have HTC:Hid (∀ W',Gr W W'→W'.cell? ⟨T,0,none⟩=some (.pointer (some ⟨sb,0,none⟩))):=Lib.hid fun W' hW=>(hW.chg.cell hT (fun x=>x))
 clear h hT
 clear hx hy hr hi hj ho hda hdb ha hb
 go_enter Tryz.func58,Tryz.ntmps58
 go_upto_region 1 with fail
 -- REGION
 refine region_inv' (n:=18) rfl rfl (by kernel_rfl) (by kernel_rfl) (fun i v w=>match i with|0=>v = .pointer (some ⟨sb,0,none⟩)|1=>v = .int .i64 a|2=>v = .int .i64 da|3=>v = .pointer (some ⟨sb,0,none⟩)|4=>v = .int .i64 b|5=>v = .int .i64 db|6=>v = .int .i64 x|7=>v = .int .i64 a|8=>v = .int .i64 b|9=>v = .int .i64 y|11=>v = .int .i64 r|12=>v = .int .i64 r|10=>∃ q,v = .slice (some ⟨q,0,none⟩) 2 2∧w.cell? ⟨q,0,none⟩=some (.int .i64 x)∧w.cell? ⟨q,1,none⟩=some (.int .i64 y)|_=>True)
  (fun w'=>Gr W w') (fun w' w2=>Below w'.heap.size w' w2) (fun w'=>Below.refl _ _) ?_ (Gr.refl W).drew ?_ ?_
 ·intro i v w1 w2 hg h
  match i,h with
  | 0,h=>exact h
  | 1,h=>exact h
  | 2,h=>exact h
  | 3,h=>exact h
  | 4,h=>exact h
  | 5,h=>exact h
  | 6,h=>exact h
  | 7,h=>exact h
  | 8,h=>exact h
  | 9,h=>exact h
  | 10,h=>
   obtain ⟨q,e,h0,h1⟩:=h
   have hq:=World.block_lt_of_cell? _ _ h0
   exact ⟨q,e,(hg.cell (p:=⟨q,0,none⟩) hq).trans h0,(hg.cell (p:=⟨q,1,none⟩) hq).trans h1⟩
  | 11,h=>exact h
  | 12,h=>exact h
  | k+13,h=>trivial
 ·simp only [AllAt]
  refine ⟨?_,?_,?_,?_,?_,?_,?_,?_,?_,?_,?_,?_,?_,trivial⟩
  ·refine StepAt.plain rfl ?_
   intro f w' hG hfr hp Kx hK
   have g2:f 2 = .pointer (some ⟨T,0,none⟩):=hfr 2 (by kernel_rfl)
   clear hfr hp
   have c0:=HTC.out _ hG
   go_simp
   exact hK _ _ rfl hG (Below.refl _ _)
  ·refine StepAt.plain rfl ?_
   intro f w' hG hfr hp Kx hK
   have g0:f 0 = .int .i64 a:=hfr 0 (by kernel_rfl)
   clear hfr hp
   go_simp
   exact hK _ _ rfl hG (Below.refl _ _)
  ·refine StepAt.plain rfl ?_
   intro f w' hG hfr hp Kx hK
   have g6:f 6 = .pointer (some ⟨sb,0,none⟩):=hp 0 _ 6 rfl rfl (by kernel_rfl)
   have g7:f 7 = .int .i64 a:=hp 1 _ 7 rfl rfl (by kernel_rfl)
   clear hfr hp
   go_simp
   refine (HDA.out _ (HPI.out _ hG)).mono ?_
   rintro e w2 ⟨rfl,rfl⟩
   exact hK _ _ rfl hG (Below.refl _ _)
  ·refine StepAt.plain rfl ?_
   intro f w' hG hfr hp Kx hK
   have g2:f 2 = .pointer (some ⟨T,0,none⟩):=hfr 2 (by kernel_rfl)
   clear hfr hp
   have c0:=HTC.out _ hG
   go_simp
   exact hK _ _ rfl hG (Below.refl _ _)
  ·refine StepAt.plain rfl ?_
   intro f w' hG hfr hp Kx hK
   have g1:f 1 = .int .i64 b:=hfr 1 (by kernel_rfl)
   clear hfr hp
   go_simp
   exact hK _ _ rfl hG (Below.refl _ _)
  ·refine StepAt.plain rfl ?_
   intro f w' hG hfr hp Kx hK
   have g9:f 9 = .pointer (some ⟨sb,0,none⟩):=hp 3 _ 9 rfl rfl (by kernel_rfl)
   have g10:f 10 = .int .i64 b:=hp 4 _ 10 rfl rfl (by kernel_rfl)
   clear hfr hp
   go_simp
   refine (HDB.out _ (HPI.out _ hG)).mono ?_
   rintro e w2 ⟨rfl,rfl⟩
   exact hK _ _ rfl hG (Below.refl _ _)
  ·refine StepAt.plain rfl ?_
   intro f w' hG hfr hp Kx hK
   have g8:f 8 = .int .i64 da:=hp 2 _ 8 rfl rfl (by kernel_rfl)
   have g11:f 11 = .int .i64 db:=hp 5 _ 11 rfl rfl (by kernel_rfl)
   clear hfr hp
   go_simp
   refine (HI.out _).mono ?_
   rintro e w2 ⟨rfl,rfl⟩
   exact hK _ _ rfl hG (Below.refl _ _)
  ·refine StepAt.plain rfl ?_
   intro f w' hG hfr hp Kx hK
   have g0:f 0 = .int .i64 a:=hfr 0 (by kernel_rfl)
   clear hfr hp
   go_simp
   exact hK _ _ rfl hG (Below.refl _ _)
  ·refine StepAt.plain rfl ?_
   intro f w' hG hfr hp Kx hK
   have g1:f 1 = .int .i64 b:=hfr 1 (by kernel_rfl)
   clear hfr hp
   go_simp
   exact hK _ _ rfl hG (Below.refl _ _)
  ·refine StepAt.plain rfl ?_
   intro f w' hG hfr hp Kx hK
   have g13:f 13 = .int .i64 a:=hp 7 _ 13 rfl rfl (by kernel_rfl)
   have g14:f 14 = .int .i64 b:=hp 8 _ 14 rfl rfl (by kernel_rfl)
   clear hfr hp
   go_simp
   refine (HJ.out _).mono ?_
   rintro e w2 ⟨rfl,rfl⟩
   exact hK _ _ rfl hG (Below.refl _ _)
  ·refine StepAt.plain rfl ?_
   intro f w' hG hfr hp Kx hK
   have g12:f 12 = .int .i64 x:=hp 6 _ 12 rfl rfl (by kernel_rfl)
   have g15:f 15 = .int .i64 y:=hp 9 _ 15 rfl rfl (by kernel_rfl)
   clear hfr hp
   go_simp
   exact hK _ _ ⟨_,rfl,by simp,by simp⟩ (hG.alloc _) (below_alloc (Below.refl _ _) _)
  ·refine StepAt.plain rfl ?_
   intro f w' hG hfr hp Kx hK
   obtain ⟨q,g16,e0,e1⟩:∃ q,f 16 = .slice (some ⟨q,0,none⟩) 2 2∧w'.cell? ⟨q,0,none⟩=some (.int .i64 x)∧w'.cell? ⟨q,1,none⟩=some (.int .i64 y):=hp 10 _ 16 rfl rfl (by kernel_rfl)
   clear hfr hp
   go_simp
   refine (HO.out _ _ e0 e1).mono ?_
   rintro e w2 ⟨rfl,y5,rfl⟩
   exact hK _ _ rfl (hG.drewN _) (below_drewN (Below.refl _ _) _)
  ·refine StepAt.plain rfl ?_
   intro f w' hG hfr hp Kx hK
   have g17:f 17 = .int .i64 r:=hp 11 _ 17 rfl rfl (by kernel_rfl)
   clear hfr hp
   go_simp
   exact hK _ _ rfl hG (Below.refl _ _)
 ·intro f w' hG hfr hR
  have g5:f 5 = .int .i64 r:=hR 12 _ 5 rfl rfl
  clear hfr hR
  have HG2:=Lib.hid hG
  clear hG
  go_wp2_with fail
  refine bodyPost_ret (v:=.int .i64 r) ?_ rfl ⟨rfl,HG2.out⟩
  simp [results,Tryz.results58,go_sem,g5]
 -- DONE
end Go.Proofs.YtajmeimjaapagaaGreatDoor
namespace Go.Proofs.YtajmeimjaapagaaGreatDoor
open Go.RowKit Go.Deep
open Go.Sort (grow putRow Holds putCells PermIn SortedIn)
theorem chg_sort {enc:NId→Value} (w:World) (blk off n:Nat) (d:Array NId) (os:Array Obj):Chg (fun k=>k=blk) w (Go.Proofs.sortWorld enc w blk off n d os):=by
 refine ⟨rfl,rfl,rfl,by simp [Go.Proofs.sortWorld,putRow,Go.Sort.mapBlock,grow,Go.Sort.ahead],fun k hk hne=>?_⟩
 unfold Go.Proofs.sortWorld
 rw [Go.Sort.heap_grow_old _ _ (by simpa [putRow,Go.Sort.mapBlock,Go.Sort.ahead] using hk)]
 have:blk≠k:=fun e=>hne e.symm
 simp [putRow,Go.Sort.mapBlock,Go.Sort.ahead,Array.getElem?_modify,this]
def PSorted (M:PM) (l:List Int):Prop:=l.Pairwise fun a b=>dueP M a<dueP M b∨(dueP M a=dueP M b∧a≤b)
set_option maxHeartbeats 2000000 in
theorem psort_any {w:World} {sb m T base:Nat} {M:PM} (h:PeI w sb m M) (hT:w.cell? ⟨T,0,none⟩=some (.pointer (some ⟨sb,0,none⟩))) {v:Value} {l:List Int} (hv:NRow w base v l) (hw:∀ x∈l,(Lit.int .i64 x).wf=true) (hl:l.length≤1000000) (hb1:sb<base) (hb2:m<base) (hb3:T<base) :
 Calls Tryz.prog 57 #[v,.func (.func 58) #[] #[.pointer (some ⟨T,0,none⟩)]] w fun e w'=>e = .returned (.tuple #[])∧∃ l',l'.Perm l∧PSorted M l'∧NRow w' base v l'∧w.grownBy w' v.ownBlock:=by
 rcases hv.2 with ⟨rfl,h0⟩|⟨g1,cap,cur,rfl,hbase,hb,h1,h2,h3,h4⟩
 ·obtain rfl:l=[]:=List.length_eq_zero_iff.1 h0
  refine (AnyF.slices_SortFunc_none { Tryz.sortI with } none 0 _ w).mono ?_
  rintro e w' ⟨rfl,rfl⟩
  exact ⟨rfl,[],List.Perm.refl _,List.Pairwise.nil,hv,grownBy_refl _ _⟩
 ·have eg:∀ args w,(callFunc 58 args).run Tryz.prog w = .ok (.enter 58 args) w:=enters_of Tryz.func58 (by kernel_rfl) rfl
  obtain ⟨L,hL⟩:∃ L:List NId,L.map (·.1)=l:=⟨l.pmap (fun a (ha:(Lit.int .i64 a).wf=true)=>(⟨a,ha⟩:NId)) hw,by rw [List.map_pmap];simp⟩
  have hLl:L.length=l.length:=by rw [←hL,List.length_map]
  have hcell:∀ j,j<l.length→cur[j]? = (L.map nenc)[j]?:=fun j hj=>by
   have e1:(cur.toList.take (l.length*1))[j]? = (l.map fun x=>Value.int .i64 x)[j]?:=by rw [h4]
   rw [List.getElem?_take,if_pos (by omega),Array.getElem?_toList] at e1
   rw [e1,←hL,List.map_map]
   rfl
  have hH:Holds nenc w g1 0 L.toArray:=by
   intro j hj
   have hj':j<L.length:=by simpa using hj
   refine ⟨?_,by simp [World.frozen?,hb]⟩
   have e1:=hcell j (by omega)
   rw [List.getElem?_map,List.getElem?_eq_getElem hj',Option.map_some] at e1
   rw [getElem!_pos _ j hj]
   simp only [World.cell?,hb,Nat.zero_add]
   simpa using e1
  have hsg:sb≠g1:=by omega
  have hmg:m≠g1:=by omega
  have hTg:T≠g1:=by omega
  have hcon:=Any.slices_SortFunc Tryz.sortI nenc (fun _=>rfl) (pOrd M) (pord_swo M) 58 #[.pointer (some ⟨T,0,none⟩)] g1 0 cap L.toArray w eg
   (fun n os dk _ x y=>pclosure_any (h.chg (chg_sort w g1 0 n dk os) hsg hmg) ((chg_sort w g1 0 n dk os).cell hT hTg) x y) hH (Array.getElem?_eq_some_iff.1 hb).1 (by simp;omega)
  rw [show L.toArray.size=l.length by simp [hLl]] at hcon
  refine hcon.mono ?_
  rintro e w' ⟨rfl,d',n,os,hp,hs,rfl⟩
  have hsz:d'.size=l.length:=by have:=hp.1;simpa [hLl] using this
  have hperm:d'.toList.Perm L:=by
   have h5:=hp.2.2
   rw [←hsz] at h5
   have e1:d'.extract 0 d'.size=d':=by simp
   have e2:L.toArray.extract 0 d'.size=L.toArray:=by rw [show d'.size=L.toArray.size by simp [hsz,hLl]];simp
   rw [e1,e2] at h5
   simpa using h5
  refine ⟨rfl,d'.toList.map (·.1),?_,?_,?_,?_⟩
  ·rw [←hL];exact hperm.map _
  ·unfold PSorted
   rw [List.pairwise_map,List.pairwise_iff_getElem]
   intro i j hi hj hij
   have hi':i<d'.size:=by simpa using hi
   have hj':j<d'.size:=by simpa using hj
   have h6:=hs i j (Nat.zero_le _) hij (by rw [←hsz];exact hj')
   rw [getElem!_pos _ i hi',getElem!_pos _ j hj'] at h6
   simp only [Array.getElem_toList]
   have h7:¬ pLess M d'[j] d'[i]:=fun hx=>by
    rw [(pOrd_lt M _ _).2 hx] at h6
    cases h6
   unfold pLess at h7
   omega
  ·have hl4:(d'.toList.map (·.1)).length=l.length:=by rw [List.length_map,Array.length_toList,hsz]
   have hheap:(Go.Proofs.sortWorld nenc w g1 0 n d' os).heap[g1]? = some (.cells (putCells nenc 0 d' cur) 3 (0,0)):=by
    unfold Go.Proofs.sortWorld
    have hg:g1<w.heap.size:=(Array.getElem?_eq_some_iff.1 hb).1
    rw [Go.Sort.heap_grow_old _ _ (by simpa [putRow,Go.Sort.mapBlock,Go.Sort.ahead] using hg)]
    simp [putRow,Go.Sort.mapBlock,Go.Sort.ahead,Array.getElem?_modify,hb,Go.Sort.onCells]
   unfold NRow
   rw [hl4]
   refine ⟨by rw [List.length_map,hl4,Nat.mul_one],.inr ⟨g1,cap,_,rfl,hbase,hheap,h1,h2,by simp [putCells,h3],?_⟩⟩
   rw [Nat.mul_one]
   apply List.ext_getElem?
   intro j
   by_cases hj:j<l.length
   ·have hjc:j<cur.size:=by rw [h3];omega
    have hjd:j<d'.size:=by rw [hsz];exact hj
    rw [List.getElem?_take_of_lt hj,Array.getElem?_toList]
    simp [putCells,hjd,hjc,nenc]
   ·rw [List.getElem?_take_eq_none (by omega),List.getElem?_eq_none (by rw [List.length_map,hl4];omega)]
  ·exact Chg.grown (chg_sort w g1 0 n d' os) (fun k _ e=>by rw [e];rfl)
theorem pkeys_any (w:World) (mb:Option Nat):Calls Tryz.prog 55 #[.map mb] w fun e w'=>e = .returned (.func (.func 95) #[] #[.pointer (some ⟨w.heap.size,0,none⟩)])∧w'=w.alloc (.cells #[.map mb] 92):=
 callsIn_wide.1 (AnyZI.keys_in Tryz.keysI Fence.wide 5 trivial rfl mb w)
theorem intKeys_perm {l:List (Lit×DataW Unit)} {M:PM} (h:l.Perm (M.map (prK pK recEl))):(intKeys (DataW.map l)).Perm (M.map (·.1)):=by
 have:=h.map (fun p=>Go.intOf p.1)
 rw [List.map_map] at this
 exact this
set_option maxHeartbeats 1000000 in
theorem pcollect_any {w:World} {q m:Nat} {M:PM} (hq:w.cell? ⟨q,0,none⟩=some (.map (some m))) (hM:MapK pK recEl w m M) (hl:M.length≤1000000) :
 Calls Tryz.prog 54 #[.func (.func 95) #[] #[.pointer (some ⟨q,0,none⟩)]] w fun e w'=>∃ v ss,e = .returned v∧ss.Perm (M.map (·.1))∧NRow w' w.heap.size v ss∧Below w.heap.size w w':=by
 obtain ⟨hnd,hok,l,ho,hp⟩:=hM
 have hsz:Maps.size (DataW.map l)=M.length:=by
  show l.length=_
  rw [hp.length_eq,List.length_map]
 have hql:=World.block_lt_of_cell? _ _ hq
 have hseq:SeqGives Fence.wide 3 Tryz.prog 95 #[.pointer (some ⟨q,0,none⟩)] encZ (fun ss=>ss.Perm (intKeys (DataW.map l))) (Maps.size (DataW.map l)) w:=
  AnyZI.keys_gives (ρ:=Tryz.keysI_ren) { Tryz.keysI with } Fence.wide _ trivial rfl (by omega) q m _ _ w hql hq ho
 refine (callsIn_wide.1 (AnyZI.collect_in Tryz.collectI Fence.wide 5 trivial trivial rfl (by omega) 95 #[.pointer (some ⟨q,0,none⟩)] trivial (enters_of Tryz.func95 (by kernel_rfl) rfl) _ _ (by rw [hsz];unfold maxLen;omega) (by rw [hsz];omega) w hseq)).mono ?_
 rintro e w' ⟨v,ss,rfl,hS,hrow,_,hb⟩
 exact ⟨v,ss,rfl,hS.trans (intKeys_perm hp),hrow,hb⟩
end Go.Proofs.YtajmeimjaapagaaGreatDoor
namespace Go.Proofs.YtajmeimjaapagaaGreatDoor
open Go.RowKit Go.Deep
attribute [local go_sem] fr_opt
theorem NRow.base {w:World} {b b':Nat} {v:Value} {l:List Int} (h:NRow w b v l) (hb:b'≤b):NRow w b' v l:=by
 refine ⟨h.1,?_⟩
 rcases h.2 with h0|⟨g,cap,cur,e,hbg,rest⟩
 ·exact .inl h0
 ·exact .inr ⟨g,cap,cur,e,by omega,rest⟩
theorem NRow.block {w:World} {b:Nat} {v:Value} {l:List Int} (h:NRow w b v l):∀ g,v.ownBlock=some g→b≤g∧g<w.heap.size:=World.ownsRow.lt h
def PendL (M:PM) (l:List Int):Prop:=l.Perm ((M.filter fun p=>decide (p.2.1=1)).map (·.1))∧PSorted M l
theorem keys_over {M:PM} (h:GoodP M) {ss:List Int} (hp:ss.Perm (M.map (·.1))):(ss.filter fun x=>!overP M x).Perm ((M.filter fun p=>decide (p.2.1=1)).map (·.1)):=by
 refine (hp.filter _).trans ?_
 rw [List.filter_map]
 have e:M.filter ((fun x=>!overP M x) ∘ fun p:Int×(Int×Int)=>p.1)=M.filter fun p=>decide (p.2.1=1):=by
  refine List.filter_congr fun p hpM=>?_
  have:getK M p.1=some p.2:=getK_of h.nodup hpM
  simp [overP,stP,this]
 rw [e]
theorem fr_lit19 (f:Nat→Value):Fr 19 f=⟨#[f 0,f 1,f 2,f 3,f 4,f 5,f 6,f 7,f 8,f 9,f 10,f 11,f 12,f 13,f 14,f 15,f 16,f 17,f 18],[]⟩:=rfl
set_option maxHeartbeats 2000000 in
set_option maxRecDepth 100000 in
theorem ppending_any {w:World} {sb m:Nat} {M:PM} (h:PeI w sb m M) (hn:M.length≤1000000) :
 Calls Tryz.prog 27 #[.pointer (some ⟨sb,0,none⟩)] w fun e w'=>∃ v l,e = .returned v∧PendL M l∧NRow w' w.heap.size v l∧Below w.heap.size w w':=by
 have H:=Lib.hid h
 have HN:=Lib.hid hn
 have hs0:=h.lt.1
 clear h hn
 go_enter Tryz.func27,Tryz.ntmps27
 go_upto_region 1 with fail
 obtain ⟨T,hT⟩:∃ T,T=w.heap.size:=⟨_,rfl⟩
 obtain ⟨W0,hW0⟩:∃ W,W=w.alloc (.cells #[.pointer (some ⟨sb,0,none⟩)] 26):=⟨_,rfl⟩
 have hc0:Chg (fun _=>False) w W0:=by rw [hW0];exact (Chg.refl _ _).alloc _ _
 have hb0:Below w.heap.size w W0:=by rw [hW0];exact below_alloc (Below.refl _ _) _
 have hsz0:W0.heap.size=T+1:=by rw [hW0,hT];simp
 have cT:W0.cell? ⟨T,0,none⟩=some (.pointer (some ⟨sb,0,none⟩)):=by rw [hW0,hT,Lib.cell_of_heap (heap_alloc_new _ _)];rfl
 rw [←hW0,←hT]
 have hP:=H.out.new hc0
 have HB0:=Lib.hid hb0
 have HCT:=Lib.hid cT
 have HP:=Lib.hid hP
 have hsB:sb<W0.heap.size:=hP.lt.1
 have hmB:m<W0.heap.size:=hP.lt.2
 have HTw:=Lib.hid hT
 clear hW0 hc0 hb0 hP hT hs0
 go_upto_region 3 with fail
 have HCW:Hid (∀ W,Chg (fun _=>False) W0 W→W.cell? ⟨T,0,none⟩=some (.pointer (some ⟨sb,0,none⟩))∧PeI W sb m M):=Lib.hid fun W hW=>⟨hW.cell HCT.out (fun x=>x),HP.out.new hW⟩
 clear cT
 refine region_ph (n:=19) 12 [4,5,8,9] rfl rfl (by kernel_rfl) (by kernel_rfl) (by kernel_rfl) (fun i v=>match i with|0=>v = .pointer (some ⟨sb,0,none⟩)|1=>v = .pointer (some ⟨sb,0,none⟩)|2=>v = .pointer (some ⟨sb,0,none⟩)|3=>v = .map (some m)|6=>v = .pointer (some ⟨sb,0,none⟩)|7=>v = .func (.func 56) #[.pointer (some ⟨sb,0,none⟩)] #[]|_=>True)
  (fun p fr w'=>Chg (fun _=>False) W0 w'∧match p with|0=>True|1=>∃ q,fr 10 = .func (.func 95) #[] #[.pointer (some ⟨q,0,none⟩)]∧w'.cell? ⟨q,0,none⟩=some (.map (some m))|2=>∃ ss:List Int,ss.Perm (M.map (·.1))∧NRow w' W0.heap.size (fr 11) ss|3=>∃ ss:List Int,ss.Perm (M.map (·.1))∧NRow w' W0.heap.size (fr 14) (ss.filter fun x=>!overP M x)|_=>∃ ss:List Int,ss.Perm (M.map (·.1))∧NRow w' W0.heap.size (fr 3) (ss.filter fun x=>!overP M x)) ?_ ?_ ?_
 ·exact ⟨(Chg.refl _ _).drew,trivial⟩
 ·simp only [AllAt]
  refine ⟨?_,?_,?_,?_,?_,?_,?_,?_,?_,?_,trivial⟩
  ·refine StepPh.reg rfl (by decide) (fun d hd=>by cases hd;decide) ?_
   intro fr w' p hG hup hdn hfr hp K hK
   have g1:fr 1 = .pointer (some ⟨T,0,none⟩):=hfr 1 (by kernel_rfl)
   have c0:=(HCW.out _ hG.1).1
   clear hfr hp hup hdn
   go_simp
   exact hK _ _ rfl hG
  ·refine StepPh.reg rfl (by decide) (fun d hd=>by cases hd;decide) ?_
   intro fr w' p hG hup hdn hfr hp K hK
   have g6:fr 6 = .pointer (some ⟨sb,0,none⟩):=hp 0 _ 6 rfl rfl (by kernel_rfl)
   clear hfr hp hup hdn
   go_simp
   exact hK _ _ rfl hG
  ·refine StepPh.reg rfl (by decide) (fun d hd=>by cases hd;decide) ?_
   intro fr w' p hG hup hdn hfr hp K hK
   have g7:fr 7 = .pointer (some ⟨sb,0,none⟩):=hp 1 _ 7 rfl rfl (by kernel_rfl)
   clear hfr hp hup hdn
   go_simp
   exact hK _ _ rfl hG
  ·refine StepPh.reg rfl (by decide) (fun d hd=>by cases hd;decide) ?_
   intro fr w' p hG hup hdn hfr hp K hK
   have g8:fr 8 = .pointer (some ⟨sb,0,none⟩):=hp 2 _ 8 rfl rfl (by kernel_rfl)
   have c0:=(HCW.out _ hG.1).2.cell.1
   clear hfr hp hup hdn
   go_simp
   exact hK _ _ rfl hG
  ·refine StepPh.wr 0 rfl (by decide) rfl (fun d hd=>by cases hd;decide) (fun j hj=>by omega) ?_
   intro fr w' hG hfr hp K hK
   have g9:fr 9 = .map (some m):=hp 3 _ 9 rfl rfl (by kernel_rfl)
   have hG1:=hG.1
   clear hfr hp hG
   go_simp
   refine (pkeys_any _ _).mono ?_
   rintro e w2 ⟨rfl,rfl⟩
   exact hK _ _ (fun _=>trivial) ⟨hG1.alloc _ _,_,rfl,by rw [Lib.cell_of_heap (heap_alloc_new _ _)];rfl⟩
  ·refine StepPh.wr 1 rfl (by decide) rfl (fun d hd=>by cases hd;decide) (fun j hj=>by (obtain rfl:j=0:=(by omega));kernel_rfl) ?_
   intro fr w' hG hfr hp K hK
   obtain ⟨hG1,q,g10,hq⟩:=hG
   clear hfr hp
   go_simp
   refine (pcollect_any hq (HCW.out _ hG1).2.map HN.out).mono ?_
   rintro e w2 ⟨v,ss,rfl,hp,hr,hb⟩
   exact hK _ _ (fun _=>trivial) ⟨hG1.trans (Chg.of_below hb) (fun _ _ x=>x),ss,hp,hr.base hG1.size⟩
  ·refine StepPh.reg rfl (by decide) (fun d hd=>by cases hd;decide) ?_
   intro fr w' p hG hup hdn hfr hp K hK
   have g1:fr 1 = .pointer (some ⟨T,0,none⟩):=hfr 1 (by kernel_rfl)
   have c0:=(HCW.out _ hG.1).1
   clear hfr hp hup hdn
   go_simp
   exact hK _ _ rfl hG
  ·refine StepPh.reg rfl (by decide) (fun d hd=>by cases hd;decide) ?_
   intro fr w' p hG hup hdn hfr hp K hK
   have g12:fr 12 = .pointer (some ⟨sb,0,none⟩):=hp 6 _ 12 rfl rfl (by kernel_rfl)
   clear hfr hp hup hdn
   go_simp
   exact hK _ _ rfl hG
  ·refine StepPh.wr 2 rfl (by decide) rfl (fun d hd=>by cases hd;decide) (fun j hj=>by rcases (by omega:j=0∨j=1) with rfl|rfl<;>kernel_rfl) ?_
   intro fr w' hG hfr hp K hK
   have g13:fr 13 = .func (.func 56) #[.pointer (some ⟨sb,0,none⟩)] #[]:=hp 7 _ 13 rfl rfl (by kernel_rfl)
   obtain ⟨hG1,ss,hss,hr⟩:=hG
   have hPI:=(HCW.out _ hG1).2
   clear hfr hp
   obtain ⟨v11,g11⟩:∃ v,fr 11=v:=⟨_,rfl⟩
   rw [g11] at hr
   have hwf:∀ x∈ss,(Lit.int .i64 x).wf=true:=fun x hx=>by
    obtain ⟨p,hp,rfl⟩:=List.mem_map.1 (hss.mem_iff.1 hx)
    exact hPI.map.2.1 p hp
   have hlen:ss.length≤1000000:=by rw [hss.length_eq,List.length_map];exact HN.out
   have hdel:=pdelete_any hPI hr hwf hlen hsB hmB
   have hbl:=hr.block
   clear hr hPI
   go_simp
   refine hdel.mono ?_
   rintro e w2 ⟨v,rfl,hr2,hg2⟩
   exact hK _ _ (fun _=>trivial) ⟨hG1.trans (Chg.of_grown (S:=fun k=>v11.ownBlock=some k) hg2 (fun k hk _=>hk)) (fun i hi e=>by have:=(hbl i e).1;omega),ss,hss,hr2⟩
  ·refine StepPh.wr 3 rfl (by decide) rfl (fun d hd=>by cases hd;decide) (fun j hj=>by rcases (by omega:j=0∨j=1∨j=2) with rfl|rfl|rfl<;>kernel_rfl) ?_
   intro fr w' hG hfr hp K hK
   clear hfr hp
   go_simp
   exact hK _ _ (fun _=>trivial) hG
 ·intro fr w' hG hfr hR
  obtain ⟨hG1,ss,hss,hr⟩:=hG
  have g1:fr 1 = .pointer (some ⟨T,0,none⟩):=hfr 1 (by kernel_rfl)
  obtain ⟨v3,g3⟩:∃ v,fr 3=v:=⟨_,rfl⟩
  rw [g3] at hr
  obtain ⟨cT,hPI⟩:=HCW.out _ hG1
  have hwf:∀ x∈ss.filter (fun x=>!overP M x),(Lit.int .i64 x).wf=true:=fun x hx=>by
   obtain ⟨p,hp,rfl⟩:=List.mem_map.1 (hss.mem_iff.1 (List.mem_filter.1 hx).1)
   exact hPI.map.2.1 p hp
  have hlen:(ss.filter fun x=>!overP M x).length≤1000000:=by
   refine Nat.le_trans (List.length_filter_le _ _) ?_
   rw [hss.length_eq,List.length_map];exact HN.out
  have hso:=psort_any hPI cT hr hwf hlen hsB hmB (by omega)
  have hov:=keys_over hPI.good hss
  have hbl:=hr.block
  have HSO:=Lib.hid hso
  have HOV:=Lib.hid hov
  have HBL:=Lib.hid hbl
  have HG1:=Lib.hid hG1
  clear hfr hR hr hPI hwf hlen hso hov hbl hG1 hss cT
  rw [fr_lit19 fr,g1,g3]
  go_wp2_with fail
  refine HSO.out.mono ?_
  rintro e w2 ⟨rfl,l',hp',hs',hr',hg'⟩
  have HE:Hid (PendL M l'∧NRow w2 w.heap.size v3 l'∧Below w.heap.size w w2):=Lib.hid ⟨⟨hp'.trans HOV.out,hs'⟩,hr'.base (by have:=HTw.out;omega),by
   have hch:Chg (fun _=>False) W0 w2:=HG1.out.trans (Chg.of_grown (S:=fun k=>v3.ownBlock=some k) hg' (fun k hk _=>hk)) (fun i hi e=>by have:=(HBL.out i e).1;omega)
   exact HB0.out.trans (hch.below (B:=w.heap.size) (fun k _ e=>e.elim) (by have:=HTw.out;omega))⟩
  clear hp' hs' hr' hg'
  go_wp2_with fail
  go_ret
  exact ⟨_,l',rfl,HE.out⟩
end Go.Proofs.YtajmeimjaapagaaGreatDoor
