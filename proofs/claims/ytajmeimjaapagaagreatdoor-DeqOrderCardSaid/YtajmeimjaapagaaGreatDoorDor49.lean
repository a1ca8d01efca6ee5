/- A part. -/
import Derived.Test.YtajmeimjaapagaaGreatDoorDor38
import Derived.Test.YtajmeimjaapagaaGreatDoorDor41
set_option linter.unusedVariables false
set_option linter.unusedSimpArgs false
namespace Go.Proofs.YtajmeimjaapagaaGreatDoor
open Go.RowKit Go.Deep
def wM:ByteArray:=⟨#[119,45,109,97,114,107,115]⟩
theorem wM_ne:wM≠wS:=by decide
structure MkM where
 due:Nat
 rc:Nat
 ah:Nat
 ps:Nat
def mkI (m:MkM):List Int:=[(m.due:Int),(m.rc:Int),(m.ah:Int),(m.ps:Int)]
def mkW:List Nat:=[6,6,6,2]
structure MkOk (m:MkM):Prop where
 due:m.due≤1099511627776
 rc:m.rc≤1099511627776
 ah:m.ah<281474976710656
 ps:m.ps<65536
theorem mk_fit {m:MkM} (h:MkOk m):fit4 mkW (mkI m)=true:=by
 obtain ⟨a,b,c,d⟩:=h
 refine fit4_iff.2 fun i hi=>?_
 match i,hi with
 | 0,_=>exact ⟨Int.natCast_nonneg _,by show ((m.due:Nat):Int)<281474976710656;omega⟩
 | 1,_=>exact ⟨Int.natCast_nonneg _,by show ((m.rc:Nat):Int)<281474976710656;omega⟩
 | 2,_=>exact ⟨Int.natCast_nonneg _,by show ((m.ah:Nat):Int)<281474976710656;omega⟩
 | 3,_=>exact ⟨Int.natCast_nonneg _,by show ((m.ps:Nat):Int)<65536;omega⟩
def mkB (m:MkM):List UInt8:=bytesK mkW (mkI m) 4
theorem mkB_length (m:MkM):(mkB m).length=20:=bytesK_length _ _ _
theorem mk_put {m:MkM} (h:MkOk m):put4 mkW (mkI m)=⟨(mkB m).toArray⟩:=by unfold put4;rw [mk_fit h];rfl
theorem mk_get {m:MkM} (h:MkOk m):getOk ⟨(mkB m).toArray⟩ mkW=true∧get4 ⟨(mkB m).toArray⟩ mkW 0=m.due∧get4 ⟨(mkB m).toArray⟩ mkW 1=m.rc∧get4 ⟨(mkB m).toArray⟩ mkW 2=m.ah∧get4 ⟨(mkB m).toArray⟩ mkW 3=m.ps:=by
 have:=put_back (mk_fit h)
 rw [mk_put h] at this
 exact ⟨this.1,this.2 0 (by decide),this.2 1 (by decide),this.2 2 (by decide),this.2 3 (by decide)⟩
def mksB (ms:List MkM):List UInt8:=ms.flatMap mkB
theorem mksB_cons (x:MkM) (l:List MkM):mksB (x :: l)=mkB x ++ mksB l:=rfl
theorem mksB_app (a b:List MkM):mksB (a ++ b)=mksB a ++ mksB b:=List.flatMap_append
theorem mksB_length:∀ l,(mksB l).length=20*l.length
 | []=>rfl
 | x :: l=>by rw [mksB_cons,List.length_append,mkB_length,mksB_length l,List.length_cons];omega
theorem mksB_at:∀ (l:List MkM) (k:Nat) (m:MkM),l[k]? = some m→((mksB l).drop (20*k)).take 20=mkB m
 | [],k,m,h=>by simp at h
 | x :: l,0,m,h=>by
  simp at h
  subst h
  rw [mksB_cons,Nat.mul_zero,List.drop_zero,List.take_append_of_le_length (by rw [mkB_length];exact Nat.le_refl _),List.take_of_length_le (by rw [mkB_length];exact Nat.le_refl _)]
 | x :: l,k+1,m,h=>by
  rw [mksB_cons,show 20*(k+1)=(mkB x).length+20*k from by rw [mkB_length];omega,←List.drop_drop,List.drop_left]
  exact mksB_at l k m (by simpa using h)
theorem wput_end (A M:List UInt8):putB A A.length M=A ++ M:=by
 unfold putB
 split
 ·rename_i h
  rw [h,List.append_nil]
 ·rw [Nat.add_sub_cancel_left,List.take_append_of_le_length (Nat.le_refl _),List.take_length,List.drop_eq_nil_of_le (by rw [List.length_append,List.length_replicate];exact Nat.le_refl _),List.append_nil]
def ChainB (ms:List MkM):Nat→List MkM→Prop
 | n,[]=>n=0
 | n,m :: c=>0<n∧ms[n - 1]? = some m∧m.ah<n∧ChainB ms m.ah c
theorem ChainB.app {ms:List MkM} (xs:List MkM):∀ {c:List MkM} {n:Nat},ChainB ms n c→ChainB (ms ++ xs) n c
 | [],_,h=>h
 | m :: c,n,⟨h0,h1,h2,h3⟩=>by
  refine ⟨h0,?_,h2,h3.app xs⟩
  rw [List.getElem?_append_left (List.getElem?_eq_some_iff.1 h1).1]
  exact h1
theorem ChainB.le {ms:List MkM}:∀ {c:List MkM} {n:Nat},ChainB ms n c→n≤ms.length∧c.length≤n
 | [],n,h=>by have:n=0:=h;subst this;exact ⟨Nat.zero_le _,Nat.le_refl _⟩
 | m :: c,n,⟨h0,h1,h2,h3⟩=>by
  have:=(List.getElem?_eq_some_iff.1 h1).1
  have h4:=h3.le.2
  exact ⟨by omega,by rw [List.length_cons];omega⟩
theorem ChainB.mem {ms:List MkM}:∀ {c:List MkM} {n:Nat},ChainB ms n c→∀ m∈c,m∈ms
 | [],_,_,m,hm=>by cases hm
 | x :: c,n,⟨h0,h1,h2,h3⟩,m,hm=>by
  rcases List.mem_cons.1 hm with rfl|hm
  ·exact List.mem_of_getElem? h1
  ·exact h3.mem m hm
def again (a:Nat) (m:MkM):MkM:=⟨m.due,m.rc,a,min (m.ps+1) 65535⟩
def addM (n a:Nat):List MkM→List MkM
 | []=>[]
 | m :: xs=>again a m :: addM (n+1) (n+1) xs
def addZ (n a:Nat) (xs:List MkM):Nat:=if xs=[] then a else n+xs.length
theorem addM_length (xs:List MkM):∀ n a,(addM n a xs).length=xs.length:=by
 induction xs with
 | nil=>intro n a;rfl
 | cons m xs ih=>intro n a;simp [addM,ih]
theorem addZ_cons (n a:Nat) (m:MkM) (xs:List MkM):addZ n a (m :: xs)=addZ (n+1) (n+1) xs:=by
 unfold addZ
 by_cases h:xs=[]
 ·subst h;simp
 ·rw [if_neg (by simp),if_neg h,List.length_cons];omega
theorem again_ok {m:MkM} (h:MkOk m) {a:Nat} (ha:a<281474976710656):MkOk (again a m):=⟨h.due,h.rc,ha,by show min _ _<_;omega⟩
theorem addM_ok (xs:List MkM):∀ (n a:Nat),(∀ m∈xs,MkOk m)→a<281474976710656→n+xs.length<281474976710656→∀ m∈addM n a xs,MkOk m:=by
 induction xs with
 | nil=>intro n a _ _ _ m hm;cases hm
 | cons x xs ih=>
  intro n a h ha hn m hm
  rw [List.length_cons] at hn
  rcases List.mem_cons.1 hm with rfl|hm
  ·exact again_ok (h x (by simp)) ha
  ·exact ih (n+1) (n+1) (fun y hy=>h y (by simp [hy])) (by omega) (by omega) m hm
theorem addM_snoc (xs:List MkM) (m:MkM):∀ n a,addM n a (xs ++ [m])=addM n a xs ++ [again (addZ n a xs) m]:=by
 induction xs with
 | nil=>intro n a;rfl
 | cons x xs ih=>
  intro n a
  rw [List.cons_append,addM,ih,addZ_cons]
  rfl
theorem addZ_le (xs:List MkM) (n a:Nat):addZ n a xs≤max a (n+xs.length):=by unfold addZ;split<;>omega
theorem ChainB.put (xs:List MkM):∀ {ms:List MkM} {a:Nat} {c:List MkM},ChainB ms a c→ChainB (ms ++ addM ms.length a xs) (addZ ms.length a xs) ((addM ms.length a xs).reverse ++ c):=by
 induction xs with
 | nil=>intro ms a c h;simpa [addM,addZ] using h
 | cons x xs ih=>
  intro ms a c h
  have hle:=h.le.1
  have h1:ChainB (ms ++ [again a x]) (ms.length+1) (again a x :: c):=by
   refine ⟨by omega,?_,?_,h.app _⟩
   ·rw [Nat.add_sub_cancel,List.getElem?_append_right (Nat.le_refl _),Nat.sub_self];rfl
   ·show a<_;omega
  have h2:=ih h1
  rw [show (ms ++ [again a x]).length=ms.length+1 from by simp] at h2
  rw [addZ_cons]
  show ChainB (ms ++ (again a x :: addM (ms.length+1) (ms.length+1) xs)) _ ((again a x :: addM (ms.length+1) (ms.length+1) xs).reverse ++ c)
  rw [List.reverse_cons,List.append_assoc,←List.singleton_append (x:=again a x) (l:=addM _ _ _),←List.append_assoc]
  exact h2
end Go.Proofs.YtajmeimjaapagaaGreatDoor
