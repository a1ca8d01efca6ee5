/- A part. -/
import Derived.Test.YtajmeimjaapagaaGreatDoorDor3
import Derived.Test.YtajmeimjaapagaaGreatDoorDor12
set_option linter.unusedVariables false
set_option linter.unusedSimpArgs false
namespace Go.Proofs.YtajmeimjaapagaaGreatDoor
open Go.RowKit Go.Deep
def recElR:Value→Option (DataW Unit×List MemPlace)
 | .agg cs=>match cs.toList with
  | [.int .i64 s,.int .i64 d]=>some (.agg [.lit (.int .i64 s),.lit (.int .i64 d)],[])
  | _=>none
 | _=>none
abbrev recV (r:Int×Int):Value:=.agg #[.int .i64 r.1,.int .i64 r.2]
theorem recEl_inv {v:Value} {y:DataW Unit×List MemPlace} (h:recElR v=some y):∃ b:Int×Int,v=recV b∧y=(.agg [.lit (.int .i64 b.1),.lit (.int .i64 b.2)],[]):=by
 unfold recElR at h
 split at h
 ·rename_i cs
  split at h
  ·rename_i s d hcs
   have hc:cs = #[.int .i64 s,.int .i64 d]:=Array.ext' hcs
   cases h
   exact ⟨(s,d),by rw [hc],rfl⟩
  ·cases h
 ·cases h
def recEl:ElK (Int×Int) where
 R:=recElR
 ev:=recV
 ed r:=.agg [.lit (.int .i64 r.1),.lit (.int .i64 r.2)]
 el _:=rfl
 inv _ _ h:=recEl_inv h
 inj a b h:=by
  simp only [DataW.agg.injEq,List.cons.injEq,DataW.lit.injEq,Lit.int.injEq,and_true,true_and] at h
  exact Prod.ext h.1 h.2
noncomputable def pK:KeyK Tryz.prog 3 Int:=intKey Tryz.underlying3
theorem rec_zero (w:World):(zeroValue 91).run Tryz.prog w = .ok (recEl.ev (0,0)) w:=by kernel_rfl
structure PeI (w:World) (sb m:Nat) (M:PM):Prop where
 box:w.heap[sb]? = some (.cells #[.map (some m)] 94 (0,0))
 map:MapK pK recEl w m M
 good:GoodP M
theorem PeI.lt {w:World} {sb m:Nat} {M:PM} (h:PeI w sb m M):sb<w.heap.size∧m<w.heap.size:=⟨(Array.getElem?_eq_some_iff.1 h.box).1,h.map.lt⟩
theorem PeI.ne {w:World} {sb m:Nat} {M:PM} (h:PeI w sb m M):sb≠m:=by
 rintro rfl
 obtain ⟨_,_,l,⟨es,clock,hb,_⟩,_⟩:=h.map
 have h1:=h.box
 rw [hb] at h1
 cases h1
theorem PeI.chg {S:Nat→Prop} {w w':World} {sb m:Nat} {M:PM} (h:PeI w sb m M) (hc:Chg S w w') (h1:¬ S sb) (h2:¬ S m):PeI w' sb m M:=
 ⟨hc.heap h.box h1,h.map.heap (hc.block _ h.map.lt h2),h.good⟩
theorem PeI.new {w w':World} {sb m:Nat} {M:PM} (h:PeI w sb m M) (hc:Chg (fun _=>False) w w'):PeI w' sb m M:=h.chg hc (fun x=>x) (fun x=>x)
theorem PeI.cell {w:World} {sb m:Nat} {M:PM} (h:PeI w sb m M):w.cell? ⟨sb,0,none⟩=some (.map (some m))∧w.frozen? ⟨sb,0,none⟩=false:=by
 constructor<;>simp [World.cell?,World.frozen?,h.box]
theorem PeI.look {w:World} {sb m:Nat} {M:PM} (h:PeI w sb m M) (a:Int) (ha:(Lit.int .i64 a).wf=true) :
 (Instr.lookup 92 (.map (some m)) (.int .i64 a) false).run Tryz.prog w = .ok (.agg #[.int .i64 (stP M a),.int .i64 (dueP M a)]) w:=
 h.map.look (K:=pK) (E:=recEl) (t:=92) (e:=91) Tryz.underlying92 (rec_zero _) a ha false
theorem pnew_any (w:World):Calls Tryz.prog 32 #[] w fun e w'=>∃ sb m,e = .returned (.pointer (some ⟨sb,0,none⟩))∧PeI w' sb m []∧w.heap.size≤sb∧w.heap.size≤m∧Below w.heap.size w w':=by
 have hmm:=@run_makeMap Tryz.prog
 go_enter Tryz.func32,Tryz.ntmps32
 go_wp2_with fail
 go_ret
 refine ⟨w.heap.size+1,w.heap.size,by simp,⟨?_,?_,GoodP.nil⟩,by omega,Nat.le_refl _,?_⟩
 ·show ((w.heap.push _).push _)[w.heap.size+1]? = _
  rw [Array.getElem?_push,if_pos (by simp)]
 ·exact (MapK.made (K:=pK) (E:=recEl) w).heap (Below.heap_alloc _ _ _ (by simp))
 ·exact below_alloc (below_alloc (Below.refl _ _) _) _
theorem field0 (a b:Int) (W:World):(Instr.field 91 (.agg #[.int .i64 a,.int .i64 b]) 0).run Tryz.prog W = .ok (.int .i64 a) W:=by kernel_rfl
theorem field1 (a b:Int) (W:World):(Instr.field 91 (.agg #[.int .i64 a,.int .i64 b]) 1).run Tryz.prog W = .ok (.int .i64 b) W:=by kernel_rfl
theorem pstate_any {w:World} {sb m:Nat} {M:PM} (h:PeI w sb m M) (a:Int) (ha:(Lit.int .i64 a).wf=true) :
 Calls Tryz.prog 14 #[.pointer (some ⟨sb,0,none⟩),.int .i64 a] w fun e w'=>e = .returned (.int .i64 (stP M a))∧w=w':=by
 have hl:=h.look a ha
 obtain ⟨c0,_⟩:=h.cell
 have hf:=field0
 clear h ha
 go_enter Tryz.func14,Tryz.ntmps14
 go_wp2_with fail
 go_ret
 exact ⟨rfl,rfl⟩
theorem pdue_any {w:World} {sb m:Nat} {M:PM} (h:PeI w sb m M) (a:Int) (ha:(Lit.int .i64 a).wf=true) :
 Calls Tryz.prog 61 #[.pointer (some ⟨sb,0,none⟩),.int .i64 a] w fun e w'=>e = .returned (.int .i64 (dueP M a))∧w=w':=by
 have hl:=h.look a ha
 obtain ⟨c0,_⟩:=h.cell
 have hf:=field1
 clear h ha
 go_enter Tryz.func61,Tryz.ntmps61
 go_wp2_with fail
 go_ret
 exact ⟨rfl,rfl⟩
theorem pover_any {w:World} {sb m:Nat} {M:PM} (h:PeI w sb m M) (a:Int) (ha:(Lit.int .i64 a).wf=true) :
 Calls Tryz.prog 56 #[.pointer (some ⟨sb,0,none⟩),.int .i64 a] w fun e w'=>e = .returned (.bool !decide (stP M a=1))∧w=w':=by
 have hS:=pstate_any h a ha
 obtain ⟨x,hx⟩:∃ x,x=stP M a:=⟨_,rfl⟩
 rw [←hx] at hS ⊢
 have HS:=Lib.hid hS
 clear hS hx h ha
 go_enter Tryz.func56,Tryz.ntmps56
 go_wp2_with fail
 refine HS.out.mono ?_
 rintro e w2 ⟨rfl,rfl⟩
 go_wp2_with fail
 go_ret
 refine ⟨?_,rfl⟩
 have hb:(x != 1) = !decide (x=1):=by by_cases h:x=1<;>simp [h]
 simp [hb]
structure NoteM where
 kind:Int
 queue:Int
 due:Int
 retry:Int
 ref:Int
 born:Int
 topic:ByteArray
 tag:ByteArray
 body:ByteArray
 keys:Value
def NoteM.cells (x:NoteM):Array Value:=#[.int .i64 x.kind,.int .i64 x.queue,.int .i64 x.due,.int .i64 x.retry,.int .i64 x.ref,.int .i64 x.born,.string x.topic,.string x.tag,.string x.body,x.keys]
theorem heap3 (w:World) (a b c:Obj):(((w.alloc a).alloc b).alloc c).heap[w.heap.size+1+1]? = some c:=by
 show (((w.heap.push a).push b).push c)[w.heap.size+1+1]? = some c
 rw [Array.getElem?_push,if_pos (by simp)]
theorem behind_any (s d:Int) (x:NoteM) (hk:x.keys.oneCell'=true) (w:World) :
 Calls Tryz.prog 40 #[.agg #[.int .i64 s,.int .i64 d],.agg x.cells] w fun e w'=>e = .returned (recV (behP (s,d) x.kind x.due))∧Below w.heap.size w w':=by
 obtain ⟨kind,queue,due,retry,ref,born,topic,tag,body,keys⟩:=x
 unfold NoteM.cells
 dsimp only at hk ⊢
 obtain ⟨r,hr⟩:∃ r,r=behP (s,d) kind due:=⟨_,rfl⟩
 rw [←hr]
 have hb:∀ a b c,Below w.heap.size w (((w.alloc a).alloc b).alloc c):=fun a b c=>below_alloc (below_alloc (below_alloc (Below.refl _ _) _) _) _
 have q3:s=0∧kind=2∨s=1∧kind=3∨s=1∧kind=4∨((¬ s=0∨¬ kind=2)∧(¬ s=1∨(¬ kind=3∧¬ kind=4))):=by omega
 rcases q3 with ⟨rfl,rfl⟩|⟨rfl,rfl⟩|⟨rfl,rfl⟩|h4
 ·have hr:r=(1,due):=hr
  subst hr
  go_enter Tryz.func40,Tryz.ntmps40
  go_wp2_with fail
  (try simp only [Exit.inBlock,Exit.then]);refine bodyPost_ret (results_cell_row rfl _ _ (w.heap.size+1+1) 91 _ (0,0) _ rfl (heap3 _ _ _ _) Tryz.underlying91 rfl (by kernel_rfl)) rfl ?_
  exact ⟨rfl,hb _ _ _⟩
 ·have hr:r=(2,0):=hr
  subst hr
  go_enter Tryz.func40,Tryz.ntmps40
  go_wp2_with fail
  (try simp only [Exit.inBlock,Exit.then]);refine bodyPost_ret (results_cell_row rfl _ _ (w.heap.size+1+1) 91 _ (0,0) _ rfl (heap3 _ _ _ _) Tryz.underlying91 rfl (by kernel_rfl)) rfl ?_
  exact ⟨rfl,hb _ _ _⟩
 ·have hr:r=(3,0):=hr
  subst hr
  go_enter Tryz.func40,Tryz.ntmps40
  go_wp2_with fail
  (try simp only [Exit.inBlock,Exit.then]);refine bodyPost_ret (results_cell_row rfl _ _ (w.heap.size+1+1) 91 _ (0,0) _ rfl (heap3 _ _ _ _) Tryz.underlying91 rfl (by kernel_rfl)) rfl ?_
  exact ⟨rfl,hb _ _ _⟩
 ·have hr:r=(s,d):=by
   rw [hr]
   unfold behP
   rw [if_neg (by simp only;omega),if_neg (by simp only;omega),if_neg (by simp only;omega)]
  subst hr
  have g:((s == 0)=false∨(s == 0)=true∧(kind == 2)=false)∧((s == 1)=false∨(s == 1)=true∧(kind == 3)=false∧(kind == 4)=false):=by
   simp only [beq_iff_eq,beq_eq_false_iff_ne]
   omega
  clear h4
  obtain ⟨g1|⟨g1,g2⟩,g3|⟨g3,g4,g5⟩⟩:=g
  all_goals
   go_enter Tryz.func40,Tryz.ntmps40
   go_wp2_with fail
   (try simp only [Exit.inBlock,Exit.then]);refine bodyPost_ret (results_cell_row rfl _ _ (w.heap.size+1+1) 91 _ (0,0) _ rfl (heap3 _ _ _ _) Tryz.underlying91 rfl (by kernel_rfl)) rfl ?_
   exact ⟨rfl,hb _ _ _⟩
end Go.Proofs.YtajmeimjaapagaaGreatDoor
