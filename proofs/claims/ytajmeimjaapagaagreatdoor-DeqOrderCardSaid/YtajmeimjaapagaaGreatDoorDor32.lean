/- A part. -/
import Derived.Deep.DeepCutAuto
import Derived.Deep.RegionHeld3
import Derived.StillTailTactics
import Derived.Test.YtajmeimjaapagaaGreatDoorDor11
import Derived.Test.YtajmeimjaapagaaGreatDoorDor28
set_option linter.unusedVariables false
set_option linter.unusedSimpArgs false
namespace Go.Proofs.YtajmeimjaapagaaGreatDoor
open Go.RowKit Go.Deep
attribute [local go_sem] fr_opt
def PNoteTo (sb m:Nat) (w:World) (b:Bool) (M:PM) (e:Ending) (w':World):Prop:=e = .returned (.bool b)∧PeI w' sb m M∧Chg (fun q=>q=m) w w'
section
variable {w:World} {ops:Array Oper} {rest:List Oper} {o:Oper} {a:Act} {Q:Exit→Act→World→Prop}
theorem wpList_store_rec (hg:o.guard=none) (m x v:Operand) (hop:o.op=Op.mapUpdate 92 m x v) (mm:Nat) (M:PM) (p:Int) (r:Int×Int)
 (hm:a.eval m = .map (some mm)) (hx:a.eval x = .int .i64 p) (hv:a.eval v=recV r) (h:MapK pK recEl w mm M) (hp:(Lit.int .i64 p).wf=true) (hn:M.length<maxLen)
 (hK:∀ w',MapK pK recEl w' mm (putP M p r)→w.grownBy w' (some mm)→w'.heap.size=w.heap.size→wpList Tryz.prog ops Q rest (a.put o.dst undef) w'):wpList Tryz.prog ops Q (o :: rest) a w:=by
 refine wpList_plain hg fun K' hK'=>?_
 obtain ⟨w',hrun,r1,r2,r3⟩:=h.store (t:=92) (e:=91) Tryz.underlying92 p hp r hn
 have hrun:(Instr.mapUpdate 92 (.map (some mm)) (.int .i64 p) (recV r)).run Tryz.prog w = .ok () w':=hrun
 unfold Oper.wp
 simp [execOp,hop,hm,hx,hv,hrun,Result.andThen]
 exact hK' _ _ (hK w' r1 r2 r3)
end
set_option maxRecDepth 100000 in
theorem rec_eq_any (s d s' d':Int) (W:World):(binOp BinOp.eql 91 (.agg #[.int .i64 s',.int .i64 d']) (.agg #[.int .i64 s,.int .i64 d])).run Tryz.prog W = .ok (.bool ((s' == s) && (d' == d))) W:=by
 have u:=Tryz.underlying91
 rw [run_eql_struct]
 go_simp
 by_cases h1:s'=s<;>by_cases h2:d'=d<;>simp [h1,h2]
theorem rec_guard (x y:Operand) (xs ys:Array Value) (W:World):(eqGuard BinOp.eql 91 x y (.agg xs) (.agg ys)).run Tryz.prog W = .ok () W:=run_eqGuard_agg _ _ _ _ _ _ _ (by kernel_rfl)
theorem of_wf {id kind ref:Int} (h1:(Lit.int .i64 id).wf=true) (h2:(Lit.int .i64 ref).wf=true):(Lit.int .i64 (ofP id kind ref)).wf=true:=by
 unfold ofP
 by_cases h:kind=2
 ·rw [if_pos h];exact h1
 ·rw [if_neg h];exact h2
set_option maxRecDepth 100000 in
set_option maxHeartbeats 2000000 in
theorem pnote_any {w:World} {sb m:Nat} {M:PM} (h:PeI w sb m M) (id:Int) (x:NoteM) (hk:x.keys.oneCell'=true) (hid:(Lit.int .i64 id).wf=true) (href:(Lit.int .i64 x.ref).wf=true) (hn:M.length<maxLen) :
 Calls Tryz.prog 15 #[.pointer (some ⟨sb,0,none⟩),.int .i64 id,.agg x.cells] w (PNoteTo sb m w (noteP M id x.kind x.due x.ref).1 (noteP M id x.kind x.due x.ref).2):=by
 have hbe:=fun s d W=>behind_any s d x hk W
 obtain ⟨kind,queue,due,retry,ref,born,topic,tag,body,keys⟩:=x
 unfold NoteM.cells at hbe ⊢
 dsimp only at hbe hk href ⊢
 by_cases h0:id<0
 ·have e1:noteP M id kind due ref=(false,M):=by unfold noteP;rw [if_pos h0]
  rw [e1]
  have H:=Lib.hid h
  have g0:decide (id<0)=true:=decide_eq_true h0
  clear e1 hbe h h0
  go_enter Tryz.func15,Tryz.ntmps15
  go_wp2_with fail
  go_ret
  exact ⟨rfl,H.out.new ((Chg.refl _ _).alloc _ _),(Chg.refl _ _).alloc _ _⟩
 ·have e1:noteP M id kind due ref=if behP ((getK M (ofP id kind ref)).getD (0,0)) kind due=(getK M (ofP id kind ref)).getD (0,0) then (false,M) else (true,putP M (ofP id kind ref) (behP ((getK M (ofP id kind ref)).getD (0,0)) kind due)):=by
   unfold noteP;rw [if_neg h0]
  rw [e1]
  have g0:decide (id<0)=false:=decide_eq_false h0
  obtain ⟨a,ha,haw⟩:∃ a,a=ofP id kind ref∧(Lit.int .i64 a).wf=true:=⟨_,rfl,of_wf hid href⟩
  rw [←ha]
  have hG:=h.good.note id kind due ref
  rw [e1,←ha] at hG
  obtain ⟨ok,hok⟩:∃ b,b=(if behP ((getK M a).getD (0,0)) kind due=(getK M a).getD (0,0) then (false,M) else (true,putP M a (behP ((getK M a).getD (0,0)) kind due))).1:=⟨_,rfl⟩
  obtain ⟨M',hM'⟩:∃ b,b=(if behP ((getK M a).getD (0,0)) kind due=(getK M a).getD (0,0) then (false,M) else (true,putP M a (behP ((getK M a).getD (0,0)) kind due))).2:=⟨_,rfl⟩
  rw [←hok,←hM']
  rw [←hM'] at hG
  have HG:=Lib.hid hG
  clear hG
  have hl:=h.look a haw
  have hs1:stP M a=((getK M a).getD (0,0)).1:=rfl
  have hs2:dueP M a=((getK M a).getD (0,0)).2:=rfl
  obtain ⟨r,hr⟩:∃ r,r=(getK M a).getD (0,0):=⟨_,rfl⟩
  obtain ⟨r',hr'⟩:∃ r',r'=behP r kind due:=⟨_,rfl⟩
  rw [←hr] at hs1 hs2 hok hM'
  rw [←hr'] at hok hM'
  obtain ⟨s,d⟩:=r
  obtain ⟨s',d'⟩:=r'
  have hbe:=hbe s d
  rw [←hr'] at hbe
  rw [hs1,hs2] at hl
  unfold recV at hbe
  dsimp only at hbe hl
  have hka:(kind == 2)=true∧a=id∨(kind == 2)=false∧a=ref:=by
   rw [ha]
   unfold ofP
   by_cases hk2:kind=2
   ·rw [if_pos hk2];exact .inl ⟨by rw [hk2];rfl,rfl⟩
   ·rw [if_neg hk2];exact .inr ⟨beq_eq_false_iff_ne.2 hk2,rfl⟩
  obtain ⟨cs,hcs⟩:∃ cs:Array Value,cs = #[.int .i64 kind,.int .i64 queue,.int .i64 due,.int .i64 retry,.int .i64 ref,.int .i64 born,.string topic,.string tag,.string body,keys]:=⟨_,rfl⟩
  have hcz:(Tryz.prog.info? 36).map (·.size)=some cs.size:=by rw [hcs];kernel_rfl
  rw [←hcs] at hbe
  have H:=Lib.hid h
  have HLK:=Lib.hid hl
  have HB:=Lib.hid hbe
  have HCS:=Lib.hid hcs
  have HCZ:=Lib.hid hcz
  clear hcs hcz
  clear hbe
  have HOK:=Lib.hid hok
  have HM':=Lib.hid hM'
  have HA:=Lib.hid haw
  have HN:=Lib.hid hn
  clear hl hr hr' ha h e1 h0 hok hM' haw hn hid href
  go_enter Tryz.func15,Tryz.ntmps15
  go_upto_region 1 with fail
  obtain ⟨B,hB⟩:∃ B,B=w.heap.size:=⟨_,rfl⟩
  obtain ⟨W1,hW1⟩:∃ W1,W1=w.alloc (.cells #[.int .i64 kind,.int .i64 queue,.int .i64 due,.int .i64 retry,.int .i64 ref,.int .i64 born,.string topic,.string tag,.string body,keys] 36):=⟨_,rfl⟩
  rw [←hW1,←hB]
  have hbx:W1.heap[B]? = some (.cells #[.int .i64 kind,.int .i64 queue,.int .i64 due,.int .i64 retry,.int .i64 ref,.int .i64 born,.string topic,.string tag,.string body,keys] 36 (0,0)):=by rw [hW1,hB];exact heap_alloc_new _ _
  rw [←HCS.out] at hbx
  have hc1:Chg (fun _=>False) w W1:=by rw [hW1];exact (Chg.refl _ _).alloc _ _
  have hp1:=H.out.new hc1
  have k0:W1.cell? ⟨B,0,none⟩=some (.int .i64 kind):=by rw [Lib.cell_of_heap hbx,HCS.out];rfl
  have k4:W1.cell? ⟨B,4,none⟩=some (.int .i64 ref):=by rw [Lib.cell_of_heap hbx,HCS.out];rfl
  have hl1:(Instr.lookup 92 (.map (some m)) (.int .i64 a) false).run Tryz.prog W1 = .ok (.agg #[.int .i64 s,.int .i64 d]) W1:=by have:=hp1.look a HA.out;rwa [hs1,hs2] at this
  have c0:=hp1.cell.1
  have hm1:=hp1.lt.1
  clear hW1 hB
  have HP1:=Lib.hid hp1
  have HC1:=Lib.hid hc1
  clear hp1 hc1 hs1 hs2
  have hka2:(kind == 2)=true∧a=id∨(kind == 2)=false∧a=ref:=hka
  clear hka
  rcases hka2 with ⟨hk2,rfl⟩|⟨hk2,rfl⟩
  all_goals
   go_upto_region 7 with fail
   obtain ⟨B2,hB2⟩:∃ B,B=W1.heap.size:=⟨_,rfl⟩
   have hB1:B<W1.heap.size:=(Array.getElem?_eq_some_iff.1 hbx).1
   obtain ⟨W2,hW2⟩:∃ W,W=W1.alloc (.cells #[.int .i64 s,.int .i64 d] 91):=⟨_,rfl⟩
   have hbx2:W2.heap[B]? = some (.cells cs 36 (0,0)):=by rw [hW2];exact (Below.heap_alloc _ _ _ hB1).trans hbx
   have hrx2:W2.heap[B2]? = some (.cells #[.int .i64 s,.int .i64 d] 91 (0,0)):=by rw [hW2,hB2];exact heap_alloc_new _ _
   have hc2:Chg (fun _=>False) w W2:=by rw [hW2];exact HC1.out.alloc _ _
   try simp only [World.size_alloc]
   rw [←hW2]
   try rw [←hB2]
   have HC2:=Lib.hid hc2
   clear hW2 hB2 hB1 hc2 hbx k0 k4 hl1 c0 hm1 HP1 HC1
   go_wp2_with (first
    | (with_reducible refine wpList_load_row rfl 36 (.tmp 5) rfl B rfl 36 cs (0,0) _ hbx2 Tryz.underlying36 rfl HCZ.out ?_)
    | (with_reducible refine wpList_load_row rfl 91 (.tmp 8) rfl B2 rfl 91 _ (0,0) _ hrx2 Tryz.underlying91 rfl (by kernel_rfl) ?_)
    | fail)
   refine (HB.out _).mono ?_
   rintro e W3 ⟨rfl,hb3⟩
   have hc3:Chg (fun _=>False) w W3:=HC2.out.trans (Chg.of_below hb3) (fun _ _ x=>x)
   have hrx3:W3.heap[B2]? = some (.cells #[.int .i64 s,.int .i64 d] 91 (0,0)):=(hb3.block B2 (Array.getElem?_eq_some_iff.1 hrx2).1).trans hrx2
   have HC3:=Lib.hid hc3
   have HRX3:=Lib.hid hrx3
   clear hb3 hc3 hrx2 hrx3 hbx2 HC2
   go_upto_region 8 with fail
   obtain ⟨B3,hB3⟩:∃ B,B=W3.heap.size:=⟨_,rfl⟩
   obtain ⟨W4,hW4⟩:∃ W,W=W3.alloc (.cells #[.int .i64 s',.int .i64 d'] 91):=⟨_,rfl⟩
   have hrx4:W4.heap[B2]? = some (.cells #[.int .i64 s,.int .i64 d] 91 (0,0)):=by rw [hW4];exact (Below.heap_alloc _ _ _ (Array.getElem?_eq_some_iff.1 HRX3.out).1).trans HRX3.out
   have hnx4:W4.heap[B3]? = some (.cells #[.int .i64 s',.int .i64 d'] 91 (0,0)):=by rw [hW4,hB3];exact heap_alloc_new _ _
   have hc4:Chg (fun _=>False) w W4:=by rw [hW4];exact HC3.out.alloc _ _
   try simp only [World.size_alloc]
   rw [←hW4]
   try rw [←hB3]
   have HC4:=Lib.hid hc4
   have HNX4:=Lib.hid hnx4
   clear hW4 hB3 hc4 HC3 HRX3
   obtain ⟨q,hq⟩:∃ q,q=((s' == s) && (d' == d)):=⟨_,rfl⟩
   have hbo:=fun W=>rec_eq_any s d s' d' W
   have hgd:=rec_guard
   rw [←hq] at hbo
   have hen:=fun w=>run_eql_map_nil (P:=Tryz.prog) w _ _ _ (some m) Tryz.underlying92
   have c0:=(H.out.new HC4.out).cell.1
   cases q with
   | true=>
    have hE:(s',d')=(s,d):=by
     have:=hq.symm
     rw [Bool.and_eq_true,beq_iff_eq,beq_iff_eq] at this
     rw [this.1,this.2]
    have hok2:=HOK.out
    have hm2:=HM'.out
    rw [if_pos hE] at hok2 hm2
    subst hok2 hm2
    clear hE hq HOK HM'
    go_wp2_with (first
     | (with_reducible refine wpList_load_row rfl 91 (.tmp 9) rfl B3 rfl 91 _ (0,0) _ hnx4 Tryz.underlying91 rfl (by kernel_rfl) ?_)
     | (with_reducible refine wpList_load_row rfl 91 (.tmp 8) rfl B2 rfl 91 _ (0,0) _ hrx4 Tryz.underlying91 rfl (by kernel_rfl) ?_)
     | fail)
    go_ret
    exact ⟨rfl,H.out.new HC4.out,HC4.out.wide (fun _ _ x=>x.elim)⟩
   | false=>
    have hE:¬ (s',d')=(s,d):=by
     intro e
     injection e with e1 e2
     rw [e1,e2] at hq
     simp at hq
    have hok2:=HOK.out
    have hm2:=HM'.out
    rw [if_neg hE] at hok2 hm2
    subst hok2 hm2
    clear hE hq HOK HM'
    go_upto_region 12 with (first
     | (with_reducible refine wpList_load_row rfl 91 (.tmp 9) rfl B3 rfl 91 _ (0,0) _ hnx4 Tryz.underlying91 rfl (by kernel_rfl) ?_)
     | (with_reducible refine wpList_load_row rfl 91 (.tmp 8) rfl B2 rfl 91 _ (0,0) _ hrx4 Tryz.underlying91 rfl (by kernel_rfl) ?_)
     | fail)
    have n0:W4.cell? ⟨B3,0,none⟩=some (.int .i64 s'):=by rw [Lib.cell_of_heap HNX4.out];rfl
    have n1:W4.cell? ⟨B3,1,none⟩=some (.int .i64 d'):=by rw [Lib.cell_of_heap HNX4.out];rfl
    clear hrx4 hnx4
    go_still_tail 6,(by kernel_rfl)
    repeat still_step
    change wpList _ _ _ _ _ W4.drew
    have HP4:Hid (PeI W4.drew sb m M):=Lib.hid (H.out.new HC4.out.drew)
    have HC5:Hid (Chg (fun _=>False) w W4.drew):=Lib.hid HC4.out.drew
    clear n0 n1 c0
    generalize W4.drew=w5 at HP4 HC5 ⊢
    go_wp2_with (with_reducible refine wpList_store_rec rfl (.tmp 46) (.tmp 47) (.tmp 48) rfl m M a (s',d') rfl rfl rfl ?c1 ?c2 ?c3 ?c4)
    case c1=>exact HP4.out.map
    case c2=>exact HA.out
    case c3=>exact HN.out
    case c4=>
     intro w6 hm6 hg6 hs6
     have hch:Chg (fun x=>x=m) w5 w6:=Chg.of_grown hg6 (fun x hx _=>(Option.some.inj hx).symm)
     have HE:Hid (PNoteTo sb m w true (putP M a (s',d')) (.returned (.bool true)) w6):=
      Lib.hid ⟨rfl,⟨hch.heap HP4.out.box HP4.out.ne,hm6,HG.out⟩,(HC5.out.wide (fun _ _ e=>e.elim):Chg (fun x=>x=m) w w5).trans hch (fun i hi e=>e)⟩
     clear hm6 hg6 hs6 hch
     go_wp2_with fail
     go_ret
     exact HE.out
end Go.Proofs.YtajmeimjaapagaaGreatDoor
