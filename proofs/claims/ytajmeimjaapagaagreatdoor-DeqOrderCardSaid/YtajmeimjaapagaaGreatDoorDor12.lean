/- A part. -/
import Derived.Laws.CopyOwn
import Derived.Lib.BufferWrite
import Derived.Test.YtajmeimjaapagaaGreatDoorDor6
set_option linter.unusedVariables false
set_option linter.unusedSimpArgs false
namespace Go.Proofs.YtajmeimjaapagaaGreatDoor
open Go.RowKit Go.Deep
structure Chg (S:Nat→Prop) (w w':World):Prop where
 os:w'.os=w.os
 tape:w'.tape=w.tape
 output:w'.output=w.output
 size:w.heap.size≤w'.heap.size
 block:∀ k,k<w.heap.size→¬ S k→w'.heap[k]? = w.heap[k]?
theorem Chg.refl (S:Nat→Prop) (w:World):Chg S w w:=⟨rfl,rfl,rfl,Nat.le_refl _,fun _ _ _=>rfl⟩
theorem Chg.trans {S S':Nat→Prop} {a b c:World} (h:Chg S a b) (k:Chg S' b c) (hs:∀ i,i<a.heap.size→S' i→S i):Chg S a c:=
 ⟨k.os.trans h.os,k.tape.trans h.tape,k.output.trans h.output,Nat.le_trans h.size k.size,fun i hi hn=>
  (k.block i (Nat.lt_of_lt_of_le hi h.size) fun e=>hn (hs i hi e)).trans (h.block i hi hn)⟩
theorem Chg.wide {S S':Nat→Prop} {a b:World} (h:Chg S a b) (hs:∀ i,i<a.heap.size→S i→S' i):Chg S' a b:=
 ⟨h.os,h.tape,h.output,h.size,fun i hi hn=>h.block i hi fun e=>hn (hs i hi e)⟩
theorem Chg.of_grown {S:Nat→Prop} {a b:World} {row:Option Nat} (h:a.grownBy b row) (hs:∀ k,row=some k→k<a.heap.size→S k):Chg S a b:=
 ⟨h.os,h.tape,h.output,h.size,fun i hi hn=>h.block i hi fun e=>hn (hs i e.symm hi)⟩
theorem Chg.of_below {S:Nat→Prop} {a b:World} (h:Below a.heap.size a b):Chg S a b:=⟨h.os,h.tape,h.output,h.size,fun i hi _=>h.block i hi⟩
theorem Chg.below {S:Nat→Prop} {a b:World} {B:Nat} (h:Chg S a b) (hs:∀ k,k<a.heap.size→S k→B≤k) (hB:B≤a.heap.size):Below B a b:=
 ⟨h.os,h.tape,h.output,h.size,fun k hk=>h.block k (by omega) fun e=>by have:=hs k (by omega) e;omega⟩
theorem Chg.grown {S:Nat→Prop} {a b:World} {row:Option Nat} (h:Chg S a b) (hs:∀ k,k<a.heap.size→S k→some k=row):a.grownBy b row:=
 ⟨h.os,h.tape,h.output,h.size,fun k hk hn=>h.block k hk fun e=>hn (hs k hk e)⟩
theorem Chg.cell {S:Nat→Prop} {a b:World} (h:Chg S a b) {p:Addr} {v:Value} (hp:a.cell? p=some v) (hn:¬ S p.block):b.cell? p=some v:=
 (World.cell?_of_block (h.block p.block (World.block_lt_of_cell? a p hp) hn)).trans hp
theorem Chg.heap {S:Nat→Prop} {a b:World} (h:Chg S a b) {k:Nat} {o:Obj} (hk:a.heap[k]? = some o) (hn:¬ S k):b.heap[k]? = some o:=
 (h.block k (Array.getElem?_eq_some_iff.1 hk).1 hn).trans hk
theorem Chg.row {S:Nat→Prop} {a b:World} (h:Chg S a b) {base:Nat} {e:TypeId} {size:Nat} {v:Value} {n:Nat} {xs:List Value} (ho:a.ownsRow base e size v n xs) (hn:∀ g,v.ownBlock=some g→¬ S g):b.ownsRow base e size v n xs:=by
 refine ⟨ho.1,?_⟩
 rcases ho.2 with h0|⟨g,cap,cur,rfl,hb,hg,rest⟩
 ·exact .inl h0
 ·exact .inr ⟨g,cap,cur,rfl,hb,h.heap hg (hn g rfl),rest⟩
theorem Chg.alloc (S:Nat→Prop) {a b:World} (h:Chg S a b) (o:Obj):Chg S a (b.alloc o):=
 h.trans (S':=fun _=>False) ⟨rfl,rfl,rfl,by simp,fun k hk _=>Below.heap_alloc _ _ _ hk⟩ (fun _ _ e=>e.elim)
theorem Chg.setCell {S:Nat→Prop} {a b:World} (h:Chg S a b) {p:Addr} (hp:p.block<a.heap.size→S p.block) (u:Value):Chg S a (b.setCell p u):=
 h.trans (S':=fun k=>k=p.block) ⟨rfl,rfl,rfl,by simp [World.setCell],fun k _ hn=>Below.heap_setCell _ _ _ _ hn⟩ (fun i hi e=>by subst e;exact hp hi)
theorem Chg.drew {S:Nat→Prop} {a b:World} (h:Chg S a b):Chg S a b.drew:=⟨h.os,h.tape,h.output,h.size,h.block⟩
theorem Chg.drewN {S:Nat→Prop} {a b:World} (h:Chg S a b) (n:Nat):Chg S a (b.drewN n):=⟨h.os,h.tape,h.output,h.size,h.block⟩
def BytesAt (w:World) (v:Value) (xs:List UInt8):Prop:=w.ownsRow 0 5 1 v xs.length (xs.map by8)
theorem BytesAt.nil (w:World):BytesAt w (.slice none 0 0) []:=World.ownsRow_nil _ _ _ _
theorem Chg.bytes {S:Nat→Prop} {a b:World} (h:Chg S a b) {v:Value} {xs:List UInt8} (ho:BytesAt a v xs) (hn:∀ g,v.ownBlock=some g→¬ S g):BytesAt b v xs:=h.row ho hn
theorem BytesAt.form {w:World} {v:Value} {xs:List UInt8} (h:BytesAt w v xs):(v = .slice none 0 0∧xs=[]) ∨
 ∃ g cap cur,v = .slice (some ⟨g,0,none⟩) xs.length cap∧w.heap[g]? = some (.cells cur 5 (0,0))∧xs.length≤cap∧cap≤maxLen∧cur.size=cap∧cur.toList.take xs.length=xs.map by8:=by
 rcases h.2 with ⟨e,h0⟩|⟨g,cap,cur,e,_,hg,h1,h2,h3,h4⟩
 ·exact .inl ⟨e,List.length_eq_zero_iff.1 h0⟩
 ·exact .inr ⟨g,cap,cur,e,hg,h1,h2,by omega,by rwa [Nat.mul_one] at h4⟩
theorem BytesAt.mk {w:World} {xs:List UInt8} {g cap:Nat} {cur:Array Value} (hg:w.heap[g]? = some (.cells cur 5 (0,0))) (h1:xs.length≤cap) (h2:cap≤maxLen) (h3:cur.size=cap) (h4:cur.toList.take xs.length=xs.map by8):BytesAt w (.slice (some ⟨g,0,none⟩) xs.length cap) xs:=
 ⟨by simp,.inr ⟨g,cap,cur,rfl,Nat.zero_le _,hg,h1,h2,by omega,by rw [Nat.mul_one];exact h4⟩⟩
section
variable {P:Program}
theorem wpList_clear_row {w:World} {ops:Array Oper} {rest:List Oper} {o:Oper} {a:Act} {Q:Exit→Act→World→Prop} (hgd:o.guard=none) (s:Operand) (T:TypeId)
 (ho:o.op = .call { callee:=.builtin .clear,args:=#[s],argTypes:=#[T]}) (elem:TypeId) (hu:P.underlying T=some (.slice elem)) (z:Value) (hz:∀ w,(zeroValue elem).run P w = .ok z w) (hzc:z.cells = #[z]) (h1:z.oneCell'=true)
 (g off n cap:Nat) (hn:0<n) (hs:a.eval s = .slice (some ⟨g,off,none⟩) n cap) (cur:List Value) (t:TypeId) (hg:w.heap[g]? = some (.cells cur.toArray t (0,0))) (hfit:off+n≤cur.length)
 (h:∀ w',Hid (w'.heap[g]? = some (.cells (splice cur off (List.replicate n z)).toArray t (0,0)))→Hid (w.grownBy w' (some g))→Hid (w'.heap.size=w.heap.size)→wpList P ops Q rest (a.put o.dst (.tuple #[])) w') :
 wpList P ops Q (o :: rest) a w:=by
 refine wpList_plain hgd fun K hK=>?_
 have hzl:(Builtin.zeroCells z.cells n).toList=List.replicate n z:=by
  rw [hzc]
  simp [Builtin.zeroCells]
  apply List.ext_getElem
  ·simp
  ·intro i h1 h2
   simp [Nat.mod_one]
 have hst:=run_storeCells_at P g off t (List.replicate n z) 0 cur.toArray w hg (by simpa using hfit) (by intro v hv;rw [List.eq_of_mem_replicate hv];exact h1)
 obtain ⟨m,rfl⟩:∃ m,n=m+1:=⟨n - 1,by omega⟩
 have hrun:(Builtin.clear_ #[T] o.type #[.slice (some ⟨g,off,none⟩) (m+1) cap]).run P w = .ok (.tuple #[]) (w.setRow g (splice cur off (List.replicate (m+1) z)).toArray):=by
  simp only [Nat.add_zero,List.length_replicate] at hst
  simp [Builtin.clear_,run_underlying hu,hz,hzl,hst,splice,Result.andThen]
 unfold Oper.wp
 simp [execOp,ho,resolve,invoke,builtin,hs,hrun,Result.andThen]
 exact hK _ _ (h _ (setRow_heap w g _ _ t _ hg) ⟨rfl,rfl,rfl,by simp [World.setRow],fun k _ hk=>setRow_other w g k _ (by intro e;exact hk (by rw [e]))⟩ (by show _=_;simp [World.setRow]))
theorem wpList_copy_text {w:World} {ops:Array Oper} {rest:List Oper} {o:Oper} {a:Act} {Q:Exit→Act→World→Prop} (hgd:o.guard=none) (d s:Operand) (dT sT:TypeId)
 (ho:o.op = .call { callee:=.builtin .copy,args:=#[d,s],argTypes:=#[dT,sT]}) (elem:TypeId) (hu:P.underlying dT=some (.slice elem)) (hsz:(P.info? elem).map (·.size)=some 1)
 (g off n cap:Nat) (hd:a.eval d = .slice (some ⟨g,off,none⟩) n cap) (x:ByteArray) (hs:a.eval s = .string x) (hx:x.size≤n) (cur:List Value) (t:TypeId) (hg:w.heap[g]? = some (.cells cur.toArray t (0,0))) (hfit:off+x.size≤cur.length)
 (h:∀ w',Hid (w'.heap[g]? = some (.cells (splice cur off (x.data.toList.map by8)).toArray t (0,0)))→Hid (w.grownBy w' (some g))→Hid (w'.heap.size=w.heap.size)→wpList P ops Q rest (a.put o.dst (goInt x.size)) w') :
 wpList P ops Q (o :: rest) a w:=by
 refine wpList_plain hgd fun K hK=>?_
 have hrun:=Lib.run_copy_row_string (P:=P) w dT sT o.type elem g off n cap x cur.toArray t hu hsz hg hx (by simpa using hfit)
 have e:(cur.toArray.toList.take off ++ Lib.byteCells x.data.toList ++ cur.toArray.toList.drop (off+x.size)).toArray=(splice cur off (x.data.toList.map by8)).toArray:=by
  have e1:Lib.byteCells x.data.toList=x.data.toList.map by8:=rfl
  have e2:x.size=(x.data.toList.map by8).length:=by rw [List.length_map,Array.length_toList];rfl
  rw [e1,splice,←e2]
  simp
 rw [e] at hrun
 unfold Oper.wp
 simp [execOp,ho,resolve,invoke,builtin,hd,hs,hrun,Result.andThen]
 exact hK _ _ (h _ (setRow_heap w g _ _ t _ hg) ⟨rfl,rfl,rfl,by simp [World.setRow],fun k _ hk=>setRow_other w g k _ (by intro e;exact hk (by rw [e]))⟩ (by show _=_;simp [World.setRow]))
end
end Go.Proofs.YtajmeimjaapagaaGreatDoor
