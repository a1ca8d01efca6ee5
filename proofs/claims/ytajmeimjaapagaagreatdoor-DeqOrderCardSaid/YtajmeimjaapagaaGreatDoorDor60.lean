/- A part. -/
import Derived.Test.YtajmeimjaapagaaGreatDoorDor58
import Derived.Test.YtajmeimjaapagaaGreatDoorDor59
set_option linter.unusedVariables false
set_option linter.unusedSimpArgs false
namespace Go.Proofs.YtajmeimjaapagaaGreatDoor
open Go.RowKit Go.Deep
structure QTo (w:World) (F:Nat→Prop) (w':World) (F':Nat→Prop):Prop where
 chg:Chg F w w'
 new:∀ q,F' q→F q∨w.heap.size≤q
theorem QTo.trans {w w1 w2:World} {F F1 F2:Nat→Prop} (h:QTo w F w1 F1) (k:QTo w1 F1 w2 F2):QTo w F w2 F2:=by
 have hs:=h.chg.size
 refine ⟨h.chg.trans k.chg (fun i hi hx=>?_),fun q hq=>?_⟩
 ·rcases h.new i hx with a|a
  ·exact a
  ·omega
 ·rcases k.new q hq with a|a
  ·exact h.new q a
  ·exact .inr (by omega)
theorem QTo.of_new {w w':World} {F:Nat→Prop} (hc:Chg (fun _=>False) w w'):QTo w F w' F:=⟨hc.wide (fun _ _ x=>x.elim),fun _ h=>.inl h⟩
structure RcM where
 id:Nat
 len:Nat
 m:MsgM
def recsI:Nat→List (MsgM×List UInt8)→List RcM
 | _,[]=>[]
 | p,x :: l=>(if x.1.kind == 0 then [] else [⟨p,x.2.length,x.1⟩]) ++ recsI (p+x.2.length) l
theorem recsI_app (p:Nat) (l l':List (MsgM×List UInt8)):recsI p (l ++ l')=recsI p l ++ recsI (p+(bytesI l).length) l':=by
 induction l generalizing p with
 | nil=>simp [recsI,bytesI]
 | cons x l ih=>
  show (_ ++ recsI (p+x.2.length) (l ++ l'))=(_ ++ recsI (p+x.2.length) l) ++ _
  rw [ih,bytesI_cons,List.length_append,Nat.add_assoc,List.append_assoc]
theorem recsI_notes (p:Nat) (l:List (MsgM×List UInt8)):notesI p l=(recsI p l).map (fun r=>((r.id:Int),(r.len:Int),r.m.born)):=by
 induction l generalizing p with
 | nil=>rfl
 | cons x l ih=>
  show (_ ++ notesI (p+x.2.length) l)=(_ ++ recsI (p+x.2.length) l).map _
  rw [ih,List.map_append]
  congr 1
  split<;>rfl
theorem recsI_ids (p:Nat) (l:List (MsgM×List UInt8)):(notesI p l).map (·.1)=(recsI p l).map (fun r=>(r.id:Int)):=by
 rw [recsI_notes,List.map_map]
 rfl
theorem recsI_split {p:Nat} {l:List (MsgM×List UInt8)}:∀ r∈recsI p l,∃ l1 bs l2,l=l1 ++ (r.m,bs) :: l2∧r.m.kind≠0∧r.id=p+(bytesI l1).length∧r.len=bs.length:=by
 induction l generalizing p with
 | nil=>intro r hr;cases hr
 | cons x l ih=>
  intro r hr
  rcases List.mem_append.1 hr with h|h
  ·split at h
   ·cases h
   ·rename_i hk
    rw [List.mem_singleton] at h
    subst h
    exact ⟨[],x.2,l,rfl,by simpa using hk,by simp [bytesI],rfl⟩
  ·obtain ⟨l1,bs,l2,e1,e2,e3,e4⟩:=ih r h
   exact ⟨x :: l1,bs,l2,by rw [e1];rfl,e2,by rw [e3,bytesI_cons,List.length_append];omega,e4⟩
theorem recsI_put {p:Nat} {l:List (MsgM×List UInt8)} (hl:LaidAt p l):∀ r∈recsI p l,r.m.kind≠0∧∃ bs,putO r.m=some bs∧r.len=bs.length∧3≤r.len∧r.len≤327∧p≤r.id∧r.id+r.len≤p+(bytesI l).length:=by
 intro r hr
 obtain ⟨l1,bs,l2,e1,e2,e3,e4⟩:=recsI_split r hr
 rw [e1] at hl
 have h2:=(laidAt_app.1 hl).2.1.1
 obtain ⟨h3,h4⟩:=putO_len e2 h2
 dsimp only at h3 h4
 refine ⟨e2,bs,h2,e4,by omega,by omega,by omega,?_⟩
 rw [e1,bytesI_app,bytesI_cons,List.length_append,List.length_append]
 dsimp only
 omega
theorem recsI_sorted {p:Nat} {l:List (MsgM×List UInt8)} (hl:LaidAt p l):(recsI p l).Pairwise (fun a b=>a.id+a.len≤b.id):=by
 induction l generalizing p with
 | nil=>exact List.Pairwise.nil
 | cons x l ih=>
  show (_ ++ recsI (p+x.2.length) l).Pairwise _
  rw [List.pairwise_append]
  refine ⟨?_,ih hl.2,fun a ha b hb=>?_⟩
  ·split
   ·exact List.Pairwise.nil
   ·exact List.pairwise_singleton _ _
  ·obtain ⟨_,_,_,_,_,_,h1,_⟩:=recsI_put hl.2 b hb
   split at ha
   ·cases ha
   ·rw [List.mem_singleton] at ha
    subst ha
    exact h1
def nxt (rs:List RcM) (c:Nat):List RcM:=rs.filter fun r=>decide (c≤r.id)
theorem drop_low:∀ {l:List Int} (h:l.Pairwise (· < ·)) (a:Int),l.drop (lowN l a)=l.filter (fun x=>decide (a≤x))
 | [],_,_=>by simp [lowN]
 | x :: l,h,a=>by
  obtain ⟨h1,h2⟩:=List.pairwise_cons.1 h
  have ih:=drop_low h2 a
  unfold lowN at ih ⊢
  rw [List.countP_cons,List.filter_cons]
  by_cases hx:x<a
  ·rw [if_pos (by simpa using hx),if_neg (by simpa using hx),List.drop_succ_cons]
   exact ih
  ·have h0:l.countP (· < a)=0:=List.countP_eq_zero.2 fun y hy=>by
    have:=h1 y hy
    simp
    omega
   rw [if_neg (by simpa using hx),if_pos (by simp;omega),h0]
   show x :: l=_
   congr 1
   exact (List.filter_eq_self.2 fun y hy=>by have:=h1 y hy;simp;omega).symm
theorem nxt_ids {p:Nat} {l:List (MsgM×List UInt8)} (hl:LaidAt p l) (c:Nat):((notesI p l).map (·.1)).drop (lowN ((notesI p l).map (·.1)) (c:Int))=(nxt (recsI p l) c).map fun r=>(r.id:Int):=by
 rw [drop_low (notesI_sorted hl),recsI_ids]
 unfold nxt
 rw [List.filter_map]
 congr 1
 congr 1
 funext r
 simp
structure TpG where
 t:TapeM
 g:Gh
 st:St
 m:RowM
 n:Nat
 i0:Nat
 j:Nat
 l:List (MsgM×List UInt8)
def TpG.own (tb:Nat) (x:TpG) (q:Nat):Prop:=q∈x.t.foot tb∨q=x.t.rb∨q∈x.g.fp
def TpI (w0 w:World) (tb:Nat) (x:TpG):Prop:=TapeI w0 w tb x.t x.g x.st x.m x.n x.i0 x.j x.l
theorem TpI.lt {w0 w:World} {tb:Nat} {x:TpG} (h:TpI w0 w tb x):∀ q,x.own tb q→q<w.heap.size:=fun q hq=>by
 rcases hq with a|a|a
 ·exact h.tg.tape.lt q a
 ·rw [a];exact h.tg.row.row.lt
 ·exact h.tg.row.disk.lt q a
theorem TpI.low {w0 w:World} {tb:Nat} {x:TpG} (h:TpI w0 w tb x):∀ q,x.own tb q→w0.heap.size≤q:=fun q hq=>by
 rcases hq with a|a|a
 ·exact h.tg.tape.low q a
 ·rw [a];exact h.tg.row.lowb
 ·exact h.tg.row.low q a
theorem TpI.away {w0 w w':World} {S:Nat→Prop} {tb:Nat} {x:TpG} (h:TpI w0 w tb x) (hc:Chg S w w') (hS:∀ q,x.own tb q→¬ S q) (hl:∀ q,S q→w0.heap.size≤q):TpI w0 w' tb x:=
 { h with tg:=⟨⟨h.tg.row.disk.chg hc (fun q hq=>hS q (.inr (.inr hq))),h.tg.row.row.chg hc (hS _ (.inr (.inl rfl))),h.tg.row.out,h.tg.row.chg.trans hc (fun q hq hx=>by have:=hl q hx;omega),h.tg.row.low,h.tg.row.lowb,h.tg.row.tab0⟩,h.tg.tape.chg hc (fun q hq=>hS q (.inl hq)),h.tg.out⟩}
theorem TpI.new {w0 w w':World} {tb:Nat} {x:TpG} (h:TpI w0 w tb x) (hc:Chg (fun _=>False) w w'):TpI w0 w' tb x:=TapeI.new h hc
theorem itemsA_recs (p r:Nat) (M:MsgM) (bs:List UInt8) (hk:M.kind≠0):recsI p (itemsA r M bs)=[⟨p+(tfill r bs.length).length,bs.length,M⟩]:=by
 have hk2:(M.kind == 0)=false:=by simpa using hk
 unfold itemsA
 split
 ·rename_i h
  rw [h]
  simp [recsI,hk2]
 ·simp [recsI,hk2,fillM]
theorem chg_below {w w':World} (h:Chg (fun _=>False) w w'):Below w.heap.size w w':=h.below (fun _ _ e=>e.elim) (Nat.le_refl _)
theorem below_chg {w w':World} (h:Below w.heap.size w w'):Chg (fun _=>False) w w':=Chg.of_below h
end Go.Proofs.YtajmeimjaapagaaGreatDoor
