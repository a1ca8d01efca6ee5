/- A part. -/
import Derived.Maps.RangeWalk
set_option linter.unusedVariables false
set_option linter.unusedSimpArgs false
namespace Go.Proofs.YtajmeimjaapagaaGreatDoor
open Go.RowKit Go.ChangeMaps Go.WideShapes
open Go.Maps (Keyed)
structure KeyK (P:Program) (k:TypeId) (α:Type) [DecidableEq α] where
 kv:α→Value
 kl:α→Lit
 ok:α→Prop
 law:Keyed P k
 key:∀ a,ok a→keyOf P k (kv a)=some (kl a)
 inv:∀ v l,keyOf P k v=some l→∃ a,ok a∧v=kv a∧l=kl a
 isK:∀ a,WideAt.IsKeyLit (kl a)
 inj:∀ a b,kl a=kl b→a=b
structure ElK (β:Type) where
 R:Value→Option (DataW Unit×List MemPlace)
 ev:β→Value
 ed:β→DataW Unit
 el:∀ b,R (ev b)=some (ed b,[])
 inv:∀ v y,R v=some y→∃ b,v=ev b∧y=(ed b,[])
 inj:∀ a b,ed a=ed b→a=b
def intKey {P:Program} {k:TypeId} (hk:P.underlying k=some (.int .i64)):KeyK P k Int where
 kv a:=.int .i64 a
 kl a:=.int .i64 a
 ok a:=(Lit.int .i64 a).wf=true
 law:=Go.Maps.int_keyed hk
 key a h:=Maps.keyOf_int_mk hk h
 inv v l h:=by obtain ⟨x,h1,h2,h3⟩:=Maps.keyOf_int_inv hk h;exact ⟨x,h3,h1,h2⟩
 isK _:=trivial
 inj a b h:=by injection h
def intElR:Value→Option (DataW Unit×List MemPlace)
 | .int .i64 n=>some (.lit (.int .i64 n),[])
 | _=>none
theorem intElR_inv {v:Value} {y:DataW Unit×List MemPlace} (h:intElR v=some y):∃ b:Int,v = .int .i64 b∧y=(.lit (.int .i64 b),[]):=by
 unfold intElR at h
 split at h
 ·cases h;exact ⟨_,rfl,rfl⟩
 ·cases h
def intEl:ElK Int where
 R:=intElR
 ev n:=.int .i64 n
 ed n:=.lit (.int .i64 n)
 el _:=rfl
 inv _ _ h:=intElR_inv h
 inj a b h:=by injection h with h;injection h
section
variable {P:Program} {k e t:TypeId} {α β:Type} [DecidableEq α] (K:KeyK P k α) (E:ElK β)
theorem KeyK.same (a b:α):(K.kl a).sameKey (K.kl b)=decide (a=b):=by
 rw [Bool.eq_iff_iff]
 constructor
 ·intro h
  exact decide_eq_true (K.inj _ _ (WideAt.sameKey_eq h))
 ·intro h
  obtain rfl:=of_decide_eq_true h
  exact WideAt.sameKey_self (K.isK _)
def prK (p:α×β):Lit×DataW Unit:=(K.kl p.1,E.ed p.2)
def getK (M:List (α×β)) (a:α):Option β:=(M.find? fun p=>decide (p.1=a)).map (·.2)
def dropK (M:List (α×β)) (a:α):List (α×β):=M.filter fun p=>!decide (p.1=a)
theorem getK_mem {M:List (α×β)} {a:α} {b:β} (h:getK M a=some b):(a,b)∈M:=by
 unfold getK at h
 obtain ⟨p,hp,rfl⟩:=Option.map_eq_some_iff.1 h
 have h1:=of_decide_eq_true (List.find?_some (p:=fun p:α×β=>decide (p.1=a)) hp)
 subst h1
 exact List.mem_of_find?_eq_some hp
theorem getK_of {M:List (α×β)} {a:α} {b:β} (hn:(M.map (·.1)).Nodup) (h:(a,b)∈M):getK M a=some b:=by
 induction M with
 | nil=>cases h
 | cons x M ih=>
  rw [List.map_cons,List.nodup_cons] at hn
  unfold getK
  rw [List.find?_cons]
  rcases List.mem_cons.1 h with rfl|h
  ·simp
  ·have:x.1≠a:=fun hx=>hn.1 (by rw [hx];exact List.mem_map_of_mem (f:=fun p:α×β=>p.1) h)
   simp [this]
   have:=ih hn.2 h
   unfold getK at this
   simpa using this
theorem getK_none {M:List (α×β)} {a:α} (h:getK M a=none):∀ p∈M,p.1≠a:=by
 intro p hp hx
 unfold getK at h
 rw [Option.map_eq_none_iff,List.find?_eq_none] at h
 have:=h p hp
 simp [hx] at this
theorem getK_not {M:List (α×β)} {a:α} (h:∀ p∈M,p.1≠a):getK M a=none:=by
 unfold getK
 rw [Option.map_eq_none_iff,List.find?_eq_none]
 intro p hp
 simp [h p hp]
def MapK (w:World) (m:Nat) (M:List (α×β)):Prop:=
 (M.map (·.1)).Nodup∧(∀ p∈M,K.ok p.1)∧∃ l,w.ownsMap P k E.R m M.length (.map l)∧l.Perm (M.map (prK K E))
variable {K E}
theorem MapK.lt {w:World} {m:Nat} {M:List (α×β)} (h:MapK K E w m M):m<w.heap.size:=by
 obtain ⟨_,_,l,ho,_⟩:=h
 exact ho.lt
theorem MapK.heap {w w':World} {m:Nat} {M:List (α×β)} (h:MapK K E w m M) (hb:w'.heap[m]? = w.heap[m]?):MapK K E w' m M:=by
 obtain ⟨h1,h2,l,⟨es,clock,hb',r⟩,hp⟩:=h
 exact ⟨h1,h2,l,⟨es,clock,hb.trans hb',r⟩,hp⟩
theorem MapK.made (w:World):MapK K E (w.alloc (.map #[] 0)) w.heap.size []:=
 ⟨List.nodup_nil,(fun p h=>by cases h),[],World.ownsMap_made w _ _ _,List.Perm.refl _⟩
theorem find_prK {l:List (Lit×DataW Unit)} {M:List (α×β)} (hn:(M.map (·.1)).Nodup) (hp:l.Perm (M.map (prK K E))) (a:α) :
 l.find? (fun p=>p.1.sameKey (K.kl a))=(getK M a).map fun b=>(K.kl a,E.ed b):=by
 cases hg:getK M a with
 | none=>
  rw [Option.map_none,List.find?_eq_none]
  intro p hpl
  obtain ⟨q,hq,rfl⟩:=List.mem_map.1 (hp.mem_iff.1 hpl)
  show ¬ ((K.kl q.1).sameKey (K.kl a))=true
  rw [K.same]
  simpa using getK_none hg q hq
 | some b=>
  have hm:=getK_mem hg
  have hml:(K.kl a,E.ed b)∈l:=hp.mem_iff.2 (List.mem_map.2 ⟨(a,b),hm,rfl⟩)
  cases h3:l.find? (fun p=>p.1.sameKey (K.kl a)) with
  | none=>
   have:=(List.find?_eq_none.1 h3) _ hml
   rw [K.same] at this
   simp at this
  | some p=>
   have h4:=List.mem_of_find?_eq_some h3
   have h5:p.1.sameKey (K.kl a)=true:=List.find?_some (p:=fun p:Lit×DataW Unit=>p.1.sameKey (K.kl a)) h3
   obtain ⟨q,hq,rfl⟩:=List.mem_map.1 (hp.mem_iff.1 h4)
   have h6:(K.kl q.1).sameKey (K.kl a)=true:=h5
   rw [K.same] at h6
   have h7:=of_decide_eq_true h6
   obtain ⟨q1,q2⟩:=q
   simp only at h7
   subst h7
   have h8:=getK_of hn hq
   rw [hg] at h8
   injection h8 with h8
   subst h8
   rfl
theorem MapK.look {w:World} {m:Nat} {M:List (α×β)} (h:MapK K E w m M) (ht:P.underlying t=some (.map k e)) {z:β} (hz:(zeroValue e).run P w = .ok (E.ev z) w) (a:α) (ha:K.ok a) (c:Bool) :
 (Instr.lookup t (.map (some m)) (K.kv a) c).run P w = .ok (if c then .tuple #[E.ev ((getK M a).getD z),.bool (getK M a).isSome] else E.ev ((getK M a).getD z)) w:=by
 obtain ⟨hn,hok,l,⟨es,clock,hb,F,hs,hD⟩,hp⟩:=h
 have hf:=find_prK (K:=K) (E:=E) hn hp a
 injection hD with hD
 rcases Maps.fit_look c K.law ht hz hb F (K.key a ha) with ⟨hrun,_,hat⟩|⟨e0,y,_,_,hrun,hRv,hat,_⟩
 ·rw [←hD] at hat
  have h1:=hat .nil
  unfold DataW.atKey at h1
  simp only at h1
  rw [hf] at h1
  cases hg:getK M a with
  | none=>exact hrun
  | some b=>
   exfalso
   rw [hg] at h1
   have h2:=hat (.lit (.bool true))
   unfold DataW.atKey at h2
   simp only at h2
   rw [hf,hg] at h2
   simp only [Option.map_some] at h1 h2
   rw [h1] at h2
   cases h2
 ·rw [←hD] at hat
  obtain ⟨b,hv,rfl⟩:=E.inv _ _ hRv
  have h1:=hat .nil
  unfold DataW.atKey at h1
  simp only at h1
  rw [hf] at h1
  cases hg:getK M a with
  | none=>
   exfalso
   rw [hg] at h1
   have h2:=hat (.lit (.bool true))
   unfold DataW.atKey at h2
   simp only at h2
   rw [hf,hg] at h2
   simp only [Option.map_none] at h1 h2
   rw [←h1] at h2
   cases h2
  | some b'=>
   rw [hg] at h1
   simp only [Option.map_some] at h1
   have h6:=E.inj _ _ h1
   subst h6
   rw [hrun,hv]
   rfl
theorem dropK_none {M:List (α×β)} {a:α} (h:getK M a=none):dropK M a=M:=List.filter_eq_self.2 fun p hp=>by simp [getK_none h p hp]
theorem dropK_nodup {M:List (α×β)} (h:(M.map (·.1)).Nodup) (a:α):((dropK M a).map (·.1)).Nodup:=(List.filter_sublist.map _).nodup h
theorem dropK_perm {l:List (Lit×DataW Unit)} {M:List (α×β)} (h:l.Perm (M.map (prK K E))) (a:α):(l.filter fun p=>!p.1.sameKey (K.kl a)).Perm ((dropK M a).map (prK K E)):=by
 have h1:=h.filter (fun p=>!p.1.sameKey (K.kl a))
 rw [List.filter_map] at h1
 have h2:(fun p:Lit×DataW Unit=>!p.1.sameKey (K.kl a)) ∘ prK K E=fun p=>!decide (p.1=a):=by
  funext p
  show (!(K.kl p.1).sameKey (K.kl a))=_
  rw [K.same]
 rw [h2] at h1
 exact h1
theorem ownsMap_tightK {w:World} {m n:Nat} {R:Value→Option (DataW Unit×List MemPlace)} {l:List (Lit×DataW Unit)} (h:w.ownsMap P k R m n (.map l)):w.ownsMap P k R m l.length (.map l):=by
 obtain ⟨es,clock,hb,F,hs,hD⟩:=h
 refine ⟨es,clock,hb,F,?_,hD⟩
 injection hD with hD
 rw [hD,length_sorted]
 simp
theorem putK_mem (M:List (α×β)) (a:α) (b:β) {p:α×β} (h:p∈dropK M a ++ [(a,b)]):p∈M∨p=(a,b):=by
 rcases List.mem_append.1 h with h|h
 ·exact .inl (List.mem_filter.1 h).1
 ·exact .inr (by simpa using h)
theorem MapK.store {w:World} {m:Nat} {M:List (α×β)} (h:MapK K E w m M) (ht:P.underlying t=some (.map k e)) (a:α) (ha:K.ok a) (b:β) (hn:M.length<maxLen) :
 ∃ w',(Instr.mapUpdate t (.map (some m)) (K.kv a) (E.ev b)).run P w = .ok () w'∧MapK K E w' m (dropK M a ++ [(a,b)])∧w.grownBy w' (some m)∧w'.heap.size=w.heap.size:=by
 obtain ⟨hnd,hok,l,ho,hp⟩:=h
 obtain ⟨w',hrun,ho',ht'⟩:=ho.store K.law ht hn (K.key a ha) (E.el b)
 have hsz:w'.heap.size=w.heap.size:=by
  obtain ⟨_,_,_,_,_,rfl⟩:=ht'
  simp [setBlock]
 refine ⟨w',hrun,⟨?_,fun p hp=>?_,?_⟩,ht'.grown,hsz⟩
 ·rw [List.map_append,List.nodup_append]
  refine ⟨dropK_nodup hnd a,by simp,fun x hx y hy hxy=>?_⟩
  obtain ⟨q,hq,rfl⟩:=List.mem_map.1 hx
  simp at hy
  have h1:=(List.mem_filter.1 hq).2
  simp at h1
  exact h1 (hxy.trans hy)
 ·rcases putK_mem M a b hp with h|rfl
  ·exact hok p h
  ·exact ha
 ·have h1:(putKey (K.kl a) (E.ed b) l).Perm ((dropK M a ++ [(a,b)]).map (prK K E)):=by
   refine (insert_perm _ _).trans ?_
   rw [List.map_append]
   exact ((dropK_perm hp a).cons (prK K E (a,b))).trans (List.perm_append_comm (l₁:=[prK K E (a,b)]))
  refine ⟨_,?_,h1⟩
  have h3:w'.ownsMap P k E.R m (putKey (K.kl a) (E.ed b) l).length (.map (putKey (K.kl a) (E.ed b) l)):=ownsMap_tightK ho'
  rwa [h1.length_eq,List.length_map] at h3
end
end Go.Proofs.YtajmeimjaapagaaGreatDoor
namespace Go.Proofs.YtajmeimjaapagaaGreatDoor
open Go.RowKit
abbrev PM:=List (Int×(Int×Int))
def stP (M:PM) (a:Int):Int:=((getK M a).getD (0,0)).1
def dueP (M:PM) (a:Int):Int:=((getK M a).getD (0,0)).2
def behP (r:Int×Int) (kind due:Int):Int×Int:=
 if r.1=0∧kind=2 then (1,due) else if r.1=1∧kind=3 then (2,0) else if r.1=1∧kind=4 then (3,0) else r
def ofP (id kind ref:Int):Int:=if kind=2 then id else ref
def putP (M:PM) (a:Int) (r:Int×Int):PM:=dropK M a ++ [(a,r)]
def noteP (M:PM) (id kind due ref:Int):Bool×PM:=
 if id<0 then (false,M)
 else if behP ((getK M (ofP id kind ref)).getD (0,0)) kind due=(getK M (ofP id kind ref)).getD (0,0) then (false,M)
 else (true,putP M (ofP id kind ref) (behP ((getK M (ofP id kind ref)).getD (0,0)) kind due))
def cntP (M:PM) (s:Int):Nat:=(M.filter fun p=>decide (p.2.1=s)).length
structure GoodP (M:PM):Prop where
 nodup:(M.map (·.1)).Nodup
 st:∀ p∈M,1≤p.2.1∧p.2.1≤3
 due:∀ p∈M,p.2.1≠1→p.2.2=0
theorem GoodP.nil:GoodP []:=⟨List.nodup_nil,(fun p h=>by cases h),(fun p h=>by cases h)⟩
theorem getP_mem {M:PM} {a:Int} (h:stP M a≠0):(a,(getK M a).getD (0,0))∈M:=by
 unfold stP at h
 cases hg:getK M a with
 | none=>rw [hg] at h;exact absurd rfl h
 | some r=>exact getK_mem hg
theorem GoodP.absent {M:PM} (h:GoodP M) {a:Int} (h0:stP M a=0):getK M a=none:=by
 cases hg:getK M a with
 | none=>rfl
 | some r=>
  have:=(h.st _ (getK_mem hg)).1
  unfold stP at h0
  rw [hg] at h0
  simp only [Option.getD_some] at h0
  simp only at this
  omega
theorem dropP_len {M:PM} (h:(M.map (·.1)).Nodup) {a:Int} {r:Int×Int} (hm:(a,r)∈M):(dropK M a).length+1=M.length:=by
 obtain ⟨r1,r2,rfl⟩:=List.append_of_mem hm
 rw [List.map_append,List.map_cons,List.nodup_append] at h
 obtain ⟨_,h2,h3⟩:=h
 rw [List.nodup_cons] at h2
 have e1:dropK r1 a=r1:=List.filter_eq_self.2 fun p hp=>by
  have:=h3 _ (List.mem_map_of_mem hp) _ (List.mem_cons_self ..)
  simpa using this
 have e2:dropK r2 a=r2:=List.filter_eq_self.2 fun p hp=>by
  have:p.1≠a:=fun e=>h2.1 (List.mem_map.2 ⟨p,hp,e⟩)
  simpa using this
 have e3:dropK (r1 ++ (a,r) :: r2) a=r1 ++ r2:=by
  unfold dropK at e1 e2 ⊢
  rw [List.filter_append,List.filter_cons,e1,e2]
  simp
 rw [e3]
 simp
 omega
theorem GoodP.put {M:PM} (h:GoodP M) {a:Int} {r:Int×Int} (h1:1≤r.1∧r.1≤3) (h2:r.1≠1→r.2=0):GoodP (putP M a r):=by
 refine ⟨?_,fun p hp=>?_,fun p hp=>?_⟩
 ·unfold putP
  rw [List.map_append,List.nodup_append]
  refine ⟨dropK_nodup h.nodup a,by simp,fun x hx y hy hxy=>?_⟩
  obtain ⟨q,hq,rfl⟩:=List.mem_map.1 hx
  simp at hy
  have h1:=(List.mem_filter.1 hq).2
  simp at h1
  exact h1 (hxy.trans hy)
 ·rcases putK_mem M a r hp with h'|rfl
  ·exact h.st p h'
  ·exact h1
 ·rcases putK_mem M a r hp with h'|rfl
  ·exact h.due p h'
  ·exact h2
theorem note_cases {M:PM} (h:GoodP M) (id kind due ref:Int) :
 noteP M id kind due ref=(false,M) ∨
 (kind=2∧0≤id∧stP M id=0∧noteP M id kind due ref=(true,putP M id (1,due))) ∨
 (kind≠2∧stP M ref=1∧∃ s,(s=2∨s=3)∧noteP M id kind due ref=(true,putP M ref (s,0))):=by
 unfold noteP
 by_cases h0:id<0
 ·rw [if_pos h0];exact .inl rfl
 ·rw [if_neg h0]
  by_cases h2:kind=2
  ·subst h2
   have e:ofP id 2 ref=id:=by unfold ofP;rw [if_pos rfl]
   rw [e]
   by_cases hs:stP M id=0
   ·refine .inr (.inl ⟨rfl,by omega,hs,?_⟩)
    have hb:behP ((getK M id).getD (0,0)) 2 due=(1,due):=by unfold behP;rw [if_pos ⟨hs,rfl⟩]
    rw [hb,if_neg]
    intro hx
    unfold stP at hs
    rw [←hx] at hs
    cases hs
   ·refine .inl ?_
    have hb:behP ((getK M id).getD (0,0)) 2 due=(getK M id).getD (0,0):=by
     unfold behP
     rw [if_neg (fun x=>hs x.1),if_neg (fun x=>by have:=x.2;omega),if_neg (fun x=>by have:=x.2;omega)]
    rw [if_pos hb]
  ·have e:ofP id kind ref=ref:=by unfold ofP;rw [if_neg h2]
   rw [e]
   by_cases hs:stP M ref=1
   ·by_cases h3:kind=3
    ·refine .inr (.inr ⟨h2,hs,2,.inl rfl,?_⟩)
     have hb:behP ((getK M ref).getD (0,0)) kind due=(2,0):=by unfold behP;rw [if_neg (fun x=>h2 x.2),if_pos ⟨hs,h3⟩]
     rw [hb,if_neg]
     intro hx
     unfold stP at hs
     rw [←hx] at hs
     cases hs
    ·by_cases h4:kind=4
     ·refine .inr (.inr ⟨h2,hs,3,.inr rfl,?_⟩)
      have hb:behP ((getK M ref).getD (0,0)) kind due=(3,0):=by unfold behP;rw [if_neg (fun x=>h2 x.2),if_neg (fun x=>h3 x.2),if_pos ⟨hs,h4⟩]
      rw [hb,if_neg]
      intro hx
      unfold stP at hs
      rw [←hx] at hs
      cases hs
     ·refine .inl ?_
      have hb:behP ((getK M ref).getD (0,0)) kind due=(getK M ref).getD (0,0):=by
       unfold behP
       rw [if_neg (fun x=>h2 x.2),if_neg (fun x=>h3 x.2),if_neg (fun x=>h4 x.2)]
      rw [if_pos hb]
   ·refine .inl ?_
    have hb:behP ((getK M ref).getD (0,0)) kind due=(getK M ref).getD (0,0):=by
     unfold behP
     rw [if_neg (fun x=>h2 x.2),if_neg (fun x=>hs x.1),if_neg (fun x=>hs x.1)]
    rw [if_pos hb]
theorem GoodP.note {M:PM} (h:GoodP M) (id kind due ref:Int):GoodP (noteP M id kind due ref).2:=by
 rcases note_cases h id kind due ref with e|⟨_,_,_,e⟩|⟨_,_,s,hs,e⟩
 ·rw [e];exact h
 ·rw [e];exact h.put (by simp) (fun x=>absurd rfl x)
 ·rw [e]
  refine h.put ?_ (fun _=>rfl)
  rcases hs with rfl|rfl<;>simp
theorem note_len {M:PM} (h:GoodP M) (id kind due ref:Int) :
 (noteP M id kind due ref).2.length=M.length+(if (noteP M id kind due ref).1=true∧kind=2 then 1 else 0):=by
 rcases note_cases h id kind due ref with e|⟨hk,_,hs,e⟩|⟨hk,hr,s,hs,e⟩
 ·rw [e];simp
 ·rw [e]
  simp only [hk,and_self,if_true]
  unfold putP
  rw [dropK_none (h.absent hs),List.length_append]
  rfl
 ·rw [e]
  simp only [hk,and_false,if_false,Nat.add_zero]
  unfold putP
  rw [List.length_append]
  exact dropP_len h.nodup (getP_mem (by omega))
end Go.Proofs.YtajmeimjaapagaaGreatDoor
