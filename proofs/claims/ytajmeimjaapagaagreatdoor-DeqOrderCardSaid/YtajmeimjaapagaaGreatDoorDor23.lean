/- A part. -/
import Derived.Test.YtajmeimjaapagaaGreatDoorDor12
import Derived.Test.YtajmeimjaapagaaGreatDoorDor15
set_option linter.unusedVariables false
set_option linter.unusedSimpArgs false
namespace Go.Proofs.YtajmeimjaapagaaGreatDoor
open Go.RowKit Go.Deep
structure LayE (e s:TypeId) (k:Nat) {α:Type} (enc:α→List Value):Prop where
 under:Tryz.prog.underlying s=some (.slice e)
 info:∃ i z,Tryz.prog.info? e=some i∧i.zero=some z∧i.size=k∧z.cells.size=k∧i.bytes≤1000
 len:∀ x,(enc x).length=k
 one:∀ x,∀ u∈enc x,u.oneCell'=true
 pos:0<k
variable {α:Type} {e s:TypeId} {k:Nat} {enc:α→List Value}
def GRow (e:TypeId) (k:Nat) (enc:α→List Value) (w:World) (v:Value) (l:List α):Prop:=w.ownsRow 0 e k v l.length (l.flatMap enc)
theorem gflat_len (hk:∀ x,(enc x).length=k) (l:List α):(l.flatMap enc).length=l.length*k:=by
 induction l with
 | nil=>simp
 | cons x l ih=>rw [List.flatMap_cons,List.length_append,ih,hk,List.length_cons,Nat.add_mul,Nat.one_mul,Nat.add_comm]
theorem gflat_get (hk:∀ x,(enc x).length=k) (l:List α) (i j:Nat) (hj:j<k):(l.flatMap enc)[i*k+j]? = (l[i]?).bind fun x=>(enc x)[j]?:=by
 induction l generalizing i with
 | nil=>simp
 | cons x l ih=>
  rw [List.flatMap_cons,List.getElem?_append]
  cases i with
  | zero=>rw [if_pos (by rw [hk];omega),Nat.zero_mul,Nat.zero_add];rfl
  | succ i=>
   rw [if_neg (by rw [hk,Nat.add_mul];omega),hk,List.getElem?_cons_succ,←ih i]
   congr 1
   rw [Nat.add_mul];omega
theorem gadd_none (b o i:Nat):(⟨b,o,none⟩:Addr).add i=⟨b,o+i,none⟩:=by unfold Addr.add;split<;>simp_all
theorem GRow.nil (w:World):GRow e k enc w (.slice none 0 0) ([]:List α):=World.ownsRow_nil _ _ _ _
theorem GRow.form (L:LayE e s k enc) {w:World} {v:Value} {l:List α} (h:GRow e k enc w v l):(v = .slice none 0 0∧l=[]) ∨
 ∃ g cap,v = .slice (some ⟨g,0,none⟩) l.length cap∧v.ownBlock=some g∧l.length≤cap∧g<w.heap.size∧∀ i x,l[i]? = some x→∀ j u,(enc x)[j]? = some u→w.cell? ⟨g,i*k+j,none⟩=some u:=by
 have hc:=fun (g:Nat) (hg:v.ownBlock=some g)=>World.ownsRow.cells h (g:=g) hg
 rcases h.2 with ⟨hv,h0⟩|⟨g,cap,cur,hv,_,hg,h1,h2,h3,h4⟩
 ·exact .inl ⟨hv,List.length_eq_zero_iff.1 h0⟩
 ·have ho:v.ownBlock=some g:=by rw [hv];rfl
  refine .inr ⟨g,cap,hv,ho,h1,(Array.getElem?_eq_some_iff.1 hg).1,fun i x hx j u hu=>?_⟩
  have hj:j<k:=by have:=(List.getElem?_eq_some_iff.1 hu).1;rwa [L.len] at this
  have q:(l.flatMap enc)[i*k+j]? = some u:=by rw [gflat_get L.len l i j hj,hx];exact hu
  have r:=hc g ho _ _ q
  rwa [gadd_none,Nat.zero_add] at r
theorem GRow.at_ (L:LayE e s k enc) {w:World} {a:Option Addr} {n cap:Nat} {l:List α} (h:GRow e k enc w (.slice a n cap) l) {i:Nat} {x:α} (hx:l[i]? = some x):∃ g,a=some ⟨g,0,none⟩∧∀ j u,(enc x)[j]? = some u→w.cell? ⟨g,i*k+j,none⟩=some u:=by
 rcases h.form L with ⟨_,h0⟩|⟨g,c,hv,_,_,_,hc⟩
 ·rw [h0] at hx;cases hx
 ·injection hv with e1
  exact ⟨g,e1,hc i x hx⟩
theorem GRow.len (L:LayE e s k enc) {w:World} {v:Value} {l:List α} (h:GRow e k enc w v l):∃ a cap,v = .slice a l.length cap:=by
 rcases h.form L with ⟨rfl,rfl⟩|⟨g,cap,rfl,_⟩
 ·exact ⟨none,0,rfl⟩
 ·exact ⟨_,cap,rfl⟩
theorem GRow.chg {S:Nat→Prop} {w w':World} {v:Value} {l:List α} (h:GRow e k enc w v l) (hc:Chg S w w') (hn:∀ g,v.ownBlock=some g→¬ S g):GRow e k enc w' v l:=hc.row h hn
theorem GRow.new {w w':World} {v:Value} {l:List α} (h:GRow e k enc w v l) (hc:Chg (fun _=>False) w w'):GRow e k enc w' v l:=h.chg hc (fun _ _ x=>x)
theorem GRow.lt {w:World} {v:Value} {l:List α} (h:GRow e k enc w v l):∀ g,v.ownBlock=some g→g<w.heap.size:=by
 intro g hg
 rcases h.2 with ⟨hv,_⟩|⟨g',cap,cur,hv,_,hg',_⟩
 ·rw [hv] at hg;cases hg
 ·rw [hv] at hg
  injection hg with hg
  rw [←hg]
  exact (Array.getElem?_eq_some_iff.1 hg').1
theorem GRow.one (L:LayE e s k enc) (w:World) (x:α):GRow e k enc (w.alloc (.cells (enc x).toArray e)) (.slice (some ⟨w.heap.size,0,none⟩) 1 1) [x]:=by
 have hk:=L.len x
 refine ⟨by simp [hk],.inr ⟨w.heap.size,1,(enc x).toArray,rfl,Nat.zero_le _,heap_alloc_new w _,Nat.le_refl _,by decide,by simp [hk],?_⟩⟩
 simp
 exact List.take_of_length_le (by omega)
structure AppG (e:TypeId) (k:Nat) (enc:α→List Value) (w:World) (v:Value) (l:List α) (x:α) (v':Value) (w':World):Prop where
 row:GRow e k enc w' v' (l ++ [x])
 old:GRow e k enc w' v l
 grown:w.grownBy w' v.ownBlock
 own:v'.ownBlock=v.ownBlock∨v'.ownBlock=some w.heap.size
set_option maxRecDepth 100000 in
theorem gapp_g (L:LayE e s k enc) {w:World} {v:Value} {l:List α} (x:α) {q c:Nat} (h:GRow e k enc w v l) (hl:l.length≤1000000) (hx:∀ j u,(enc x)[j]? = some u→w.cell? ⟨q,j,none⟩=some u) (ty:TypeId) :
 ∃ v' w',(Builtin.append_ #[s,s] ty #[v,.slice (some ⟨q,0,none⟩) 1 c]).run Tryz.prog w = .ok v' w'∧AppG e k enc w v l x v' w':=by
 obtain ⟨i0,z,hi,hz0,hz1,hzs,hb⟩:=L.info
 have hnews:∀ j u,(enc x)[j]? = some u→w.cell? ((⟨q,0,none⟩:Addr).add j)=some u:=fun j u hu=>by
  rw [gadd_none,Nat.zero_add]
  exact hx j u hu
 have he1:l.flatMap enc ++ enc x=(l ++ [x]).flatMap enc:=by rw [List.flatMap_append];simp
 have he2:l.length+1=(l ++ [x]).length:=by simp
 have hk1:(enc x).length=1*k:=by rw [L.len,Nat.one_mul]
 have hby:(l.length+1)*i0.bytes≤140737488355328:=by
  have:=Nat.mul_le_mul (show l.length+1≤1000001 by omega) hb
  omega
 rcases h.2 with ⟨hv,hn⟩|⟨g,cap,cur,hv,hbg,hg,hnc,hcm,hcs,htk⟩
 ·obtain ⟨v',w',hr,k1,k2,_,k3⟩:=run_append_own_at (P:=Tryz.prog) (w:=w) 0 s ty e i0 _ k i0.bytes L.under hi hz0 hz1 rfl hzs L.pos v l.length (l.flatMap enc) h ⟨q,0,none⟩ 1 c (enc x) hk1 hnews (L.one x) (by unfold maxLen;omega) hby (Nat.zero_le _)
  rw [he1,he2] at k1
  refine ⟨v',w',hr,k1,?_,k2,k3⟩
  have:l=[]:=List.length_eq_zero_iff.1 hn
  subst this
  rw [hv]
  exact GRow.nil _
 ·obtain ⟨g',cap',w',hr,k1,k2,k3,k4,k5⟩:=run_append_keep (P:=Tryz.prog) w s ty 0 e i0 _ k i0.bytes L.under hi hz0 hz1 rfl hzs L.pos g l.length cap cur (l.flatMap enc) hg hnc hcm hcs htk (gflat_len L.len l) hbg ⟨q,0,none⟩ 1 c (enc x) hk1 hnews (L.one x) (by decide) (by unfold maxLen;omega) hby (Nat.zero_le _)
  rw [he1] at k1 k5
  have hold:GRow e k enc w' v l:=by
   refine ⟨h.1,.inr ⟨g,cap,?_⟩⟩
   rcases Nat.lt_or_ge cap (l.length+1) with hlt|hge
   ·exact ⟨cur,hv,hbg,(k4 hlt g (Array.getElem?_eq_some_iff.1 hg).1).trans hg,hnc,hcm,hcs,htk⟩
   ·obtain ⟨_,cur',e1,e2,e3⟩:=k5 hge
    refine ⟨cur',hv,hbg,e1,hnc,hcm,e2,?_⟩
    have:((l ++ [x]).flatMap enc).take (l.length*k)=l.flatMap enc:=by
     rw [←he1,List.take_append_of_le_length (by rw [gflat_len L.len];exact Nat.le_refl _),List.take_of_length_le (by rw [gflat_len L.len];exact Nat.le_refl _)]
    rw [←this,←e3,List.take_take]
    congr 1
    rw [Nat.add_mul];omega
  refine ⟨_,w',by rw [hv];exact hr,?_,hold,?_,?_⟩
  ·unfold GRow
   rw [←he2]
   exact k1
  ·rw [hv];exact k2
  ·rw [hv]
   rcases k3 with rfl|rfl
   ·exact .inl rfl
   ·exact .inr rfl
end Go.Proofs.YtajmeimjaapagaaGreatDoor
