/- A part. -/
import Derived.Test.YtajmeimjaapagaaGreatDoorDor11
import Derived.Test.YtajmeimjaapagaaGreatDoorDor17
set_option linter.unusedVariables false
set_option linter.unusedSimpArgs false
namespace Go.Proofs.YtajmeimjaapagaaGreatDoor
open Go.RowKit Go.Deep
attribute [local go_sem] fr_opt
def PutW (w:World) (v:Value) (ys:List UInt8) (v':Value) (w':World):Prop:=
 BytesAt w' v' ys∧w.grownBy w' v.ownBlock∧(v'.ownBlock=v.ownBlock∨∃ g,v'.ownBlock=some g∧w.heap.size≤g)
theorem PutW.head {w w':World} {e:Ent} {ys:List UInt8} {v':Value} (h:PutW w e.vb ys v' w') (he:EntAt w e):w'.heap[e.blk]? = some (.cells #[e.vi,e.vb,e.vw] 185 (0,0)):=
 (Chg.of_grown (S:=fun k=>some k=e.vb.ownBlock) h.2.1 (fun k hk _=>hk.symm)).heap he.head (fun hx=>(foot_vb e he.apart hx.symm).1 rfl)
theorem PutW.cell {w w':World} {e:Ent} {ys:List UInt8} {v':Value} (h:PutW w e.vb ys v' w') (he:EntAt w e):w'.cell? ⟨e.blk,1,none⟩=some e.vb:=by
 simp [World.cell?,h.head he]
theorem PutW.free {w w':World} {e:Ent} {ys:List UInt8} {v':Value} (h:PutW w e.vb ys v' w') (he:EntAt w e):w'.frozen? ⟨e.blk,1,none⟩=false:=by
 simp [World.frozen?,h.head he]
def AppW (w:World) (v:Value) (ws:List WriteM) (v':Value) (w':World):Prop:=
 WritesAt w' v' ws∧w.grownBy w' v.ownBlock∧(v'.ownBlock=v.ownBlock∨∃ g,v'.ownBlock=some g∧w.heap.size≤g)
theorem AppW.head {w w':World} {e:Ent} {ws:List WriteM} {v':Value} (h:AppW w e.vw ws v' w') (he:EntAt w e):w'.heap[e.blk]? = some (.cells #[e.vi,e.vb,e.vw] 185 (0,0)):=
 (Chg.of_grown (S:=fun k=>some k=e.vw.ownBlock) h.2.1 (fun k hk _=>hk.symm)).heap he.head (fun hx=>(foot_vw e he.apart hx.symm).1 rfl)
theorem AppW.cell {w w':World} {e:Ent} {ws:List WriteM} {v':Value} (h:AppW w e.vw ws v' w') (he:EntAt w e):w'.cell? ⟨e.blk,2,none⟩=some e.vw:=by
 simp [World.cell?,h.head he]
theorem AppW.free {w w':World} {e:Ent} {ws:List WriteM} {v':Value} (h:AppW w e.vw ws v' w') (he:EntAt w e):w'.frozen? ⟨e.blk,2,none⟩=false:=by
 simp [World.frozen?,h.head he]
theorem AppW.slice {w w':World} {v:Value} {ws:List WriteM} {v':Value} (h:AppW w v ws v' w'):∃ p c,v' = .slice p ws.length c:=by
 rcases h.1.2 with ⟨e,h0⟩|⟨g,cap,cur,e,_⟩
 ·exact ⟨none,0,by rw [e,h0]⟩
 ·exact ⟨_,_,e⟩
theorem info_write:(Tryz.prog.info? 199).map (fun i=>(i.zero,i.size,i.bytes))=some (some (.agg #[.int .i64 0,.int .i64 0,.string ⟨#[]⟩]),3,32):=by kernel_rfl
theorem append_write {x:WriteM} {ws:List WriteM} {v:Value} (W:World) (h:WritesAt W v ws) (hw:ws.length≤1099511627776) (ty:TypeId) :
 ∃ v' w',(Builtin.append_ #[183,183] ty #[v,.slice (some ⟨W.heap.size,0,none⟩) 1 1]).run Tryz.prog (W.alloc (.cells #[.int .i64 x.turn,.int .i64 x.at_,.string x.s] 199)).drew = .ok v' w' ∧
  WritesAt w' v' (ws ++ [x])∧W.grownBy w' v.ownBlock∧True∧(v'.ownBlock=v.ownBlock∨∃ g,v'.ownBlock=some g∧W.heap.size≤g):=by
 obtain ⟨i0,hi,hz0,hz1,hz2⟩:=info_parts info_write
 have hown:(W.alloc (.cells #[.int .i64 x.turn,.int .i64 x.at_,.string x.s] 199)).drew.ownsRow 0 199 3 v ws.length (ws.flatMap wcells):=World.ownsRow.alloc h _
 obtain ⟨v',w',hrun,h1,h2,_,h3⟩:=run_append_own_at (P:=Tryz.prog) _ 0 183 ty 199 i0 _ 3 32 Tryz.underlying183 hi hz0 hz1 hz2 rfl (by decide) v ws.length (ws.flatMap wcells) hown ⟨W.heap.size,0,none⟩ 1 1 (wcells x) rfl
  (fun j u hu=>by
   rw [add_none]
   have hu':#[Value.int .i64 x.turn,.int .i64 x.at_,.string x.s][j]? = some u:=by simpa [wcells] using hu
   simpa using hu')
  (fun u hu=>by simp [wcells] at hu;rcases hu with rfl|rfl|rfl<;>rfl) (by unfold maxLen;omega) (by omega) (Nat.zero_le _)
 refine ⟨v',w',hrun,?_,?_,trivial,?_⟩
 ·unfold WritesAt
  rw [List.length_append,List.flatMap_append]
  simpa using h1
 ·have hg:W.grownBy (W.alloc (.cells #[.int .i64 x.turn,.int .i64 x.at_,.string x.s] 199)).drew v.ownBlock:=⟨rfl,rfl,rfl,by simp,fun k hk _=>Below.heap_alloc W _ k hk⟩
  exact grownBy_trans hg h2
 ·rcases h3 with h3|h3
  ·exact .inl h3
  ·exact .inr ⟨_,h3,by simp⟩
theorem put_to {w:World} {v:Value} {ys ys':List UInt8} {f:Nat} {args:Array Value} (h:ys=ys') (hc:Calls Tryz.prog f args w (PutTo w v ys')):Calls Tryz.prog f args w (PutTo w v ys):=h▸hc
set_option maxHeartbeats 1000000 in
set_option maxRecDepth 100000 in
theorem add_any (e:Ent) (x:WriteM) (w:World) (h:EntAt w e) (hx:e.f.bytes.length≤1099511627776) (hw:e.f.writes.length≤1099511627776) (ha:x.at_+x.s.size≤1099511627776) :
 Calls Tryz.prog 127 #[.pointer (some ⟨e.blk,0,none⟩),.agg #[.int .i64 x.turn,.int .i64 x.at_,.string x.s]] w fun en w'=>en = .returned (.tuple #[]) ∧
  FileTo w e ⟨e.f.image,putB e.f.bytes x.at_ x.s.data.toList,e.f.writes ++ [x]⟩ w':=by
 have H:=Lib.hid h
 have hnb:¬ w.heap.size∈e.foot:=fun hm=>by have:=h.lt _ hm;omega
 have HNB:=Lib.hid hnb
 clear h hnb
 obtain ⟨ys,hys⟩:∃ ys,ys=putB e.f.bytes x.at_ x.s.data.toList:=⟨_,rfl⟩
 rw [←hys]
 have HY:=Lib.hid hys
 clear hys
 go_enter Tryz.func127,Tryz.ntmps127
 go_wp2_with fail
 rename_i Kc hc
 have hE:EntAt (w.alloc (.cells #[.int .i64 x.turn,.int .i64 x.at_,.string x.s] 199)) e:=H.out.chg (S:=fun _=>False) (Chg.alloc _ (Chg.refl _ _) _) (fun _ _ h=>h)
 have b0:(w.alloc (.cells #[.int .i64 x.turn,.int .i64 x.at_,.string x.s] 199)).cell? ⟨w.heap.size,0,none⟩=some (.int .i64 x.turn):=by simp
 have b1:(w.alloc (.cells #[.int .i64 x.turn,.int .i64 x.at_,.string x.s] 199)).cell? ⟨w.heap.size,1,none⟩=some (.int .i64 x.at_):=by simp
 have b2:(w.alloc (.cells #[.int .i64 x.turn,.int .i64 x.at_,.string x.s] 199)).cell? ⟨w.heap.size,2,none⟩=some (.string x.s):=by simp
 generalize hW:(w.alloc (.cells #[.int .i64 x.turn,.int .i64 x.at_,.string x.s] 199))=W0 at *
 have c1:=hE.cells.2.1
 have HE:Hid (EntAt W0.drew e):=hE.drew
 have HB:Hid (BytesAt W0.drew e.vb e.f.bytes):=hE.bytes
 have HC0:Hid (Chg (fun _=>False) w W0.drew):=by rw [←hW];exact (Chg.alloc _ (Chg.refl _ _) _).drew
 clear hE hW
 refine region_ph (n:=26) 12 [9,12] rfl rfl (by kernel_rfl) (by kernel_rfl) (by kernel_rfl) (fun i v=>match i with|0=>v = .pointer (some ⟨e.blk,0,none⟩)|1=>v = .pointer (some ⟨e.blk,0,none⟩)|2=>v = .pointer (some ⟨e.blk,0,none⟩)|3=>v = .pointer (some ⟨e.blk,1,none⟩)|4=>v=e.vb|5=>v = .pointer (some ⟨w.heap.size,1,none⟩)|6=>v = .int .i64 x.at_|7=>v = .pointer (some ⟨w.heap.size,2,none⟩)|8=>v = .string x.s|10=>v = .pointer (some ⟨e.blk,0,none⟩)|11=>v = .pointer (some ⟨e.blk,1,none⟩)|_=>True)
  (fun p f w'=>match p with|0=>W0.drew=w'|1=>PutW W0.drew e.vb ys (f 13) w'|_=>∃ w1 v',PutW W0.drew e.vb ys v' w1∧w1.setCell ⟨e.blk,1,none⟩ v'=w') ?_ ?_ ?_
 ·exact rfl
 ·simp only [AllAt]
  refine ⟨?_,?_,?_,?_,?_,?_,?_,?_,?_,?_,?_,?_,?_,trivial⟩
  ·refine StepPh.reg rfl (by decide) (fun d hd=>by cases hd;decide) ?_
   intro f w' p hG hup hdn hfr hp K hK
   have g0:f 0 = .pointer (some ⟨e.blk,0,none⟩):=hfr 0 (by kernel_rfl)
   clear hfr hp hup hdn
   go_simp
   exact hK _ _ rfl hG
  ·refine StepPh.reg rfl (by decide) (fun d hd=>by cases hd;decide) ?_
   intro f w' p hG hup hdn hfr hp K hK
   have g0:f 0 = .pointer (some ⟨e.blk,0,none⟩):=hfr 0 (by kernel_rfl)
   clear hfr hp hup hdn
   go_simp
   exact hK _ _ rfl hG
  ·refine StepPh.reg rfl (by decide) (fun d hd=>by cases hd;decide) ?_
   intro f w' p hG hup hdn hfr hp K hK
   have g5:f 5 = .pointer (some ⟨e.blk,0,none⟩):=hp 1 _ 5 rfl rfl (by kernel_rfl)
   clear hfr hp hup hdn
   go_simp
   exact hK _ _ rfl hG
  ·refine StepPh.reg rfl (by decide) (fun d hd=>by cases hd;decide) ?_
   intro f w' p hG hup hdn hfr hp K hK
   have g6:f 6 = .pointer (some ⟨e.blk,0,none⟩):=hp 2 _ 6 rfl rfl (by kernel_rfl)
   clear hfr hp hup hdn
   go_simp
   exact hK _ _ rfl hG
  ·refine StepPh.reg rfl (by decide) (fun d hd=>by cases hd;decide) ?_
   intro f w' p hG hup hdn hfr hp K hK
   have g7:f 7 = .pointer (some ⟨e.blk,1,none⟩):=hp 3 _ 7 rfl rfl (by kernel_rfl)
   obtain rfl:p=0:=by have:=hdn 0 (by decide) (.inl (by kernel_rfl));omega
   have hGe:W0.drew=w':=hG
   subst hGe
   clear hfr hp hup hdn
   go_simp
   exact hK _ _ rfl hG
  ·refine StepPh.reg rfl (by decide) (fun d hd=>by cases hd;decide) ?_
   intro f w' p hG hup hdn hfr hp K hK
   have g3:f 3 = .pointer (some ⟨w.heap.size,0,none⟩):=hfr 3 (by kernel_rfl)
   clear hfr hp hup hdn
   go_simp
   exact hK _ _ rfl hG
  ·refine StepPh.reg rfl (by decide) (fun d hd=>by cases hd;decide) ?_
   intro f w' p hG hup hdn hfr hp K hK
   have g9:f 9 = .pointer (some ⟨w.heap.size,1,none⟩):=hp 5 _ 9 rfl rfl (by kernel_rfl)
   obtain rfl:p=0:=by have:=hdn 0 (by decide) (.inl (by kernel_rfl));omega
   have hGe:W0.drew=w':=hG
   subst hGe
   clear hfr hp hup hdn
   go_simp
   exact hK _ _ rfl hG
  ·refine StepPh.reg rfl (by decide) (fun d hd=>by cases hd;decide) ?_
   intro f w' p hG hup hdn hfr hp K hK
   have g3:f 3 = .pointer (some ⟨w.heap.size,0,none⟩):=hfr 3 (by kernel_rfl)
   clear hfr hp hup hdn
   go_simp
   exact hK _ _ rfl hG
  ·refine StepPh.reg rfl (by decide) (fun d hd=>by cases hd;decide) ?_
   intro f w' p hG hup hdn hfr hp K hK
   have g11:f 11 = .pointer (some ⟨w.heap.size,2,none⟩):=hp 7 _ 11 rfl rfl (by kernel_rfl)
   obtain rfl:p=0:=by have:=hdn 0 (by decide) (.inl (by kernel_rfl));omega
   have hGe:W0.drew=w':=hG
   subst hGe
   clear hfr hp hup hdn
   go_simp
   exact hK _ _ rfl hG
  ·refine StepPh.wr 0 rfl (by decide) rfl (fun d hd=>by cases hd;decide) (fun j hj=>by omega) ?_
   intro f w' hG hfr hp K hK
   have g8:f 8=e.vb:=hp 4 _ 8 rfl rfl (by kernel_rfl)
   have g10:f 10 = .int .i64 x.at_:=hp 6 _ 10 rfl rfl (by kernel_rfl)
   have g12:f 12 = .string x.s:=hp 8 _ 12 rfl rfl (by kernel_rfl)
   clear hfr hp
   have hGe:W0.drew=w':=hG
   subst hGe
   go_simp
   refine (put_to HY.out (put_any e.vb e.f.bytes x.at_ x.s _ HB.out hx ha)).mono ?_
   rintro en w1 ⟨v',rfl,hb1,hg1,hl1⟩
   exact hK _ _ (fun _=>trivial) ⟨hb1,hg1,hl1⟩
  ·refine StepPh.reg rfl (by decide) (fun d hd=>by cases hd;decide) ?_
   intro f w' p hG hup hdn hfr hp K hK
   have g4:f 4 = .pointer (some ⟨e.blk,0,none⟩):=hp 0 _ 4 rfl rfl (by kernel_rfl)
   clear hfr hp hup hdn
   go_simp
   exact hK _ _ rfl hG
  ·refine StepPh.reg rfl (by decide) (fun d hd=>by cases hd;decide) ?_
   intro f w' p hG hup hdn hfr hp K hK
   have g14:f 14 = .pointer (some ⟨e.blk,0,none⟩):=hp 10 _ 14 rfl rfl (by kernel_rfl)
   clear hfr hp hup hdn
   go_simp
   exact hK _ _ rfl hG
  ·refine StepPh.wr 1 rfl (by decide) rfl (fun d hd=>by cases hd) (fun j hj=>by (obtain rfl:j=0:=(by omega));kernel_rfl) ?_
   intro f w' hG hfr hp K hK
   have g15:f 15 = .pointer (some ⟨e.blk,1,none⟩):=hp 11 _ 15 rfl rfl (by kernel_rfl)
   clear hfr hp
   have hG1:PutW W0.drew e.vb ys (f 13) w':=hG
   obtain ⟨p',c',g13⟩:=hG1.1.slice
   rw [g13] at hG1
   have hcell:=hG1.cell HE.out
   have hfz:=hG1.free HE.out
   go_simp
   exact hK undef _ (fun h=>by cases h) ⟨w',_,hG1,rfl⟩
 ·intro f w1 hG hfr hR
  have q0:f 0 = .pointer (some ⟨e.blk,0,none⟩):=hfr 0 (by kernel_rfl)
  have q3:f 3 = .pointer (some ⟨w.heap.size,0,none⟩):=hfr 3 (by kernel_rfl)
  obtain ⟨wp,v',hP,rfl⟩:=hG
  have hF:=ent_set_bytes HE.out hP.2.1 hP.1 (own_form hP.2.2)
  refine hc _ _ ?_
  clear hfr hR
  obtain ⟨e1,he1⟩:∃ e1:Ent,e1 = { e with vb:=v',f:={ e.f with bytes:=ys }}:=⟨_,rfl⟩
  rw [←he1] at hF
  have hE2:EntAt (wp.setCell ⟨e.blk,1,none⟩ v') e1:=hF.at_
  have hbx:∀ i u,(W0.drew).cell? ⟨w.heap.size,i,none⟩=some u→(wp.setCell ⟨e.blk,1,none⟩ v').cell? ⟨w.heap.size,i,none⟩=some u:=fun i u hu=>hF.chg.cell hu (fun hm=>HNB.out hm)
  have d0:=hbx 0 _ b0
  have d1:=hbx 1 _ b1
  have d2:=hbx 2 _ b2
  have HF1:=Lib.hid hF
  clear hF hbx hP
  generalize wp.setCell ⟨e.blk,1,none⟩ v'=W1 at *
  have hb1:e1.blk=e.blk:=by rw [he1]
  have c2:=hE2.cells.2.2.1
  rw [hb1] at c2
  have hE3:EntAt (W1.alloc (.cells #[.int .i64 x.turn,.int .i64 x.at_,.string x.s] 199)) e1:=hE2.chg (S:=fun _=>False) (Chg.alloc _ (Chg.refl _ _) _) (fun _ _ h=>h)
  have c3:=hE3.cells.2.2.1
  rw [hb1] at c3
  have HE2:=Lib.hid hE2
  have HE3:=Lib.hid hE3
  have hwr:WritesAt W1 e1.vw e.f.writes:=by have:=HE2.out.writes;rw [he1] at this ⊢;exact this
  have HWR:=Lib.hid hwr
  clear hwr
  have HE1:=Lib.hid he1
  have HB1:=Lib.hid hb1
  clear hE2 hE3 he1 hb1
  refine region_ph (n:=26) 12 [6,7,10] rfl rfl (by kernel_rfl) (by kernel_rfl) (by kernel_rfl) (fun i v=>match i with|0=>v = .pointer (some ⟨e.blk,0,none⟩)|1=>v = .pointer (some ⟨e.blk,0,none⟩)|2=>v = .pointer (some ⟨e.blk,0,none⟩)|3=>v = .pointer (some ⟨e.blk,2,none⟩)|4=>v=e1.vw|5=>v = .agg #[.int .i64 x.turn,.int .i64 x.at_,.string x.s]|6=>v = .slice (some ⟨W1.heap.size,0,none⟩) 1 1|8=>v = .pointer (some ⟨e.blk,0,none⟩)|9=>v = .pointer (some ⟨e.blk,2,none⟩)|_=>True)
   (fun p f w'=>match p with|0=>W1.drew=w'|1=>(W1.alloc (.cells #[.int .i64 x.turn,.int .i64 x.at_,.string x.s] 199)).drew=w'|2=>AppW W1 e1.vw (e.f.writes ++ [x]) (f 23) w'|_=>∃ w2 v',AppW W1 e1.vw (e.f.writes ++ [x]) v' w2∧w2.setCell ⟨e.blk,2,none⟩ v'=w') ?_ ?_ ?_
  ·exact rfl
  ·simp only [AllAt]
   refine ⟨?_,?_,?_,?_,?_,?_,?_,?_,?_,?_,?_,trivial⟩
   ·refine StepPh.reg rfl (by decide) (fun d hd=>by cases hd;decide) ?_
    intro f w' p hG hup hdn hfr hp K hK
    have g0:f 0 = .pointer (some ⟨e.blk,0,none⟩):=(hfr 0 (by kernel_rfl)).trans ((fr_get (by decide)).trans q0)
    clear hfr hp hup hdn
    go_simp
    exact hK _ _ rfl hG
   ·refine StepPh.reg rfl (by decide) (fun d hd=>by cases hd;decide) ?_
    intro f w' p hG hup hdn hfr hp K hK
    have g0:f 0 = .pointer (some ⟨e.blk,0,none⟩):=(hfr 0 (by kernel_rfl)).trans ((fr_get (by decide)).trans q0)
    clear hfr hp hup hdn
    go_simp
    exact hK _ _ rfl hG
   ·refine StepPh.reg rfl (by decide) (fun d hd=>by cases hd;decide) ?_
    intro f w' p hG hup hdn hfr hp K hK
    have g17:f 17 = .pointer (some ⟨e.blk,0,none⟩):=hp 1 _ 17 rfl rfl (by kernel_rfl)
    clear hfr hp hup hdn
    go_simp
    exact hK _ _ rfl hG
   ·refine StepPh.reg rfl (by decide) (fun d hd=>by cases hd;decide) ?_
    intro f w' p hG hup hdn hfr hp K hK
    have g18:f 18 = .pointer (some ⟨e.blk,0,none⟩):=hp 2 _ 18 rfl rfl (by kernel_rfl)
    clear hfr hp hup hdn
    go_simp
    exact hK _ _ rfl hG
   ·refine StepPh.reg rfl (by decide) (fun d hd=>by cases hd;decide) ?_
    intro f w' p hG hup hdn hfr hp K hK
    have g19:f 19 = .pointer (some ⟨e.blk,2,none⟩):=hp 3 _ 19 rfl rfl (by kernel_rfl)
    have hpp:p=0∨p=1:=by have:=hdn 1 (by decide) (.inl (by kernel_rfl));omega
    clear hfr hp hup hdn
    rcases hpp with rfl|rfl
    ·have hGe:W1.drew=w':=hG
     subst hGe
     go_simp
     exact hK _ _ rfl hG
    ·have hGe:(W1.alloc (.cells #[.int .i64 x.turn,.int .i64 x.at_,.string x.s] 199)).drew=w':=hG
     subst hGe
     go_simp
     exact hK _ _ rfl hG
   ·refine StepPh.reg rfl (by decide) (fun d hd=>by cases hd;decide) ?_
    intro f w' p hG hup hdn hfr hp K hK
    have g3:f 3 = .pointer (some ⟨w.heap.size,0,none⟩):=(hfr 3 (by kernel_rfl)).trans ((fr_get (by decide)).trans q3)
    obtain rfl:p=0:=by have:=hdn 0 (by decide) (.inl (by kernel_rfl));omega
    have hGe:W1.drew=w':=hG
    subst hGe
    clear hfr hp hup hdn
    go_simp
    exact hK _ _ rfl hG
   ·refine StepPh.wr 0 rfl (by decide) rfl (fun d hd=>by cases hd;decide) (fun j hj=>by omega) ?_
    intro f w' hG hfr hp K hK
    have g21:f 21 = .agg #[.int .i64 x.turn,.int .i64 x.at_,.string x.s]:=hp 5 _ 21 rfl rfl (by kernel_rfl)
    clear hfr hp
    have hGe:W1.drew=w':=hG
    subst hGe
    go_simp
    exact hK _ _ (fun _=>rfl) rfl
   ·refine StepPh.wr 1 rfl (by decide) rfl (fun d hd=>by cases hd;decide) (fun j hj=>by (obtain rfl:j=0:=(by omega));kernel_rfl) ?_
    intro f w' hG hfr hp K hK
    have g20:f 20=e1.vw:=hp 4 _ 20 rfl rfl (by kernel_rfl)
    have g22:f 22 = .slice (some ⟨W1.heap.size,0,none⟩) 1 1:=hp 6 _ 22 rfl rfl (by kernel_rfl)
    clear hfr hp
    have hGe:(W1.alloc (.cells #[.int .i64 x.turn,.int .i64 x.at_,.string x.s] 199)).drew=w':=hG
    subst hGe
    obtain ⟨v',w2,hrun,hown,hgr,_,hloc⟩:=append_write (x:=x) (ws:=e.f.writes) (v:=e1.vw) W1 HWR.out hw 183
    unfold Oper.wp
    simp [execOp,resolve,invoke,builtin,fr_eval,g20,g22,hrun,Result.andThen]
    exact hK _ _ (fun _=>trivial) ⟨hown,hgr,hloc⟩
   ·refine StepPh.reg rfl (by decide) (fun d hd=>by cases hd;decide) ?_
    intro f w' p hG hup hdn hfr hp K hK
    have g16:f 16 = .pointer (some ⟨e.blk,0,none⟩):=hp 0 _ 16 rfl rfl (by kernel_rfl)
    clear hfr hp hup hdn
    go_simp
    exact hK _ _ rfl hG
   ·refine StepPh.reg rfl (by decide) (fun d hd=>by cases hd;decide) ?_
    intro f w' p hG hup hdn hfr hp K hK
    have g24:f 24 = .pointer (some ⟨e.blk,0,none⟩):=hp 8 _ 24 rfl rfl (by kernel_rfl)
    clear hfr hp hup hdn
    go_simp
    exact hK _ _ rfl hG
   ·refine StepPh.wr 2 rfl (by decide) rfl (fun d hd=>by cases hd) (fun j hj=>by rcases (by omega:j=0∨j=1) with rfl|rfl<;>kernel_rfl) ?_
    intro f w' hG hfr hp K hK
    have g25:f 25 = .pointer (some ⟨e.blk,2,none⟩):=hp 9 _ 25 rfl rfl (by kernel_rfl)
    clear hfr hp
    have hG1:AppW W1 e1.vw (e.f.writes ++ [x]) (f 23) w':=hG
    obtain ⟨p',c',g23⟩:=hG1.slice
    rw [g23] at hG1
    have hcell:=hG1.cell HE2.out
    have hfz:=hG1.free HE2.out
    rw [HB1.out] at hcell hfz
    go_simp
    exact hK undef _ (fun h=>by cases h) ⟨w',_,hG1,by simp⟩
  ·intro f w1 hG hfr hR
   obtain ⟨w2,v2,hA,rfl⟩:=hG
   clear hfr hR
   have hF2:=ent_set_writes HE2.out hA.2.1 hA.1 (own_form hA.2.2)
   rw [HB1.out] at hF2
   refine bodyPost_end (P:=Tryz.prog) (results_none (fn:=Tryz.f127) rfl _ _ _) rfl ⟨rfl,?_⟩
   refine ⟨_,?_,((Ent.To.new H.out HC0.out).trans HF1.out).trans hF2⟩
   rw [HE1.out]
end Go.Proofs.YtajmeimjaapagaaGreatDoor
namespace Go.Proofs.YtajmeimjaapagaaGreatDoor
open Go.RowKit Go.Deep
attribute [local go_sem] fr_opt
def putAll (b:List UInt8) (ws:List WriteM):List UInt8:=ws.foldl (fun b x=>putB b x.at_ x.s.data.toList) b
theorem putAll_snoc (b:List UInt8) (ws:List WriteM) (x:WriteM):putAll b (ws ++ [x])=putB (putAll b ws) x.at_ x.s.data.toList:=by simp [putAll]
theorem PutW.head_vi {w w':World} {e:Ent} {ys:List UInt8} {v':Value} (h:PutW w e.vi ys v' w') (he:EntAt w e):w'.heap[e.blk]? = some (.cells #[e.vi,e.vb,e.vw] 185 (0,0)):=
 (Chg.of_grown (S:=fun k=>some k=e.vi.ownBlock) h.2.1 (fun k hk _=>hk.symm)).heap he.head (fun hx=>(foot_vi e he.apart hx.symm).1 rfl)
theorem PutW.cell_vi {w w':World} {e:Ent} {ys:List UInt8} {v':Value} (h:PutW w e.vi ys v' w') (he:EntAt w e):w'.cell? ⟨e.blk,0,none⟩=some e.vi:=by
 simp [World.cell?,h.head_vi he]
theorem PutW.free_vi {w w':World} {e:Ent} {ys:List UInt8} {v':Value} (h:PutW w e.vi ys v' w') (he:EntAt w e):w'.frozen? ⟨e.blk,0,none⟩=false:=by
 simp [World.frozen?,h.head_vi he]
theorem WritesAt.form {w:World} {v:Value} {ws:List WriteM} (h:WritesAt w v ws):(v = .slice none 0 0∧ws=[]) ∨
 ∃ g cap,v = .slice (some ⟨g,0,none⟩) ws.length cap∧v.ownBlock=some g∧∀ i x,ws[i]? = some x→w.cell? ⟨g,i*3,none⟩=some (.int .i64 x.turn)∧w.cell? ⟨g,i*3+1,none⟩=some (.int .i64 x.at_)∧w.cell? ⟨g,i*3+1+1,none⟩=some (.string x.s):=by
 rcases h.2 with ⟨e,h0⟩|⟨g,cap,cur,e,_,hg,h1,h2,h3,h4⟩
 ·exact .inl ⟨e,List.length_eq_zero_iff.1 h0⟩
 ·refine .inr ⟨g,cap,e,by rw [e];rfl,fun i x hx=>?_⟩
  have hi:i<ws.length:=(List.getElem?_eq_some_iff.1 hx).1
  have key:∀ j,j<3→cur[i*3+j]? = (wcells x)[j]?:=fun j hj=>by
   have e1:(cur.toList.take (ws.length*3))[i*3+j]? = (ws.flatMap wcells)[i*3+j]?:=by rw [h4]
   rw [List.getElem?_take,if_pos (by omega),Array.getElem?_toList] at e1
   rw [e1]
   clear e1 h4 h3 h2 h1 hg e h
   induction ws generalizing i with
   | nil=>simp at hi
   | cons y ws ih=>
    rw [List.flatMap_cons,List.getElem?_append,wcells_length]
    cases i with
    | zero=>
     simp only [List.getElem?_cons_zero,Option.some.injEq] at hx
     subst hx
     rw [if_pos (by omega),Nat.zero_mul,Nat.zero_add]
    | succ i=>
     rw [if_neg (by omega),show (i+1)*3+j - 3=i*3+j by omega]
     exact ih i (by simpa using hx) (by simpa using hi)
  have k0:=key 0 (by decide)
  have k1:=key 1 (by decide)
  have k2:=key 2 (by decide)
  simp [wcells] at k0 k1 k2
  simp [World.cell?,hg,k0,k1,k2]
def syncF (f:FileM):FileM:=⟨putAll f.image f.writes,f.bytes,[]⟩
def Within (f:FileM) (n:Nat):Prop:=f.image.length≤n∧f.bytes.length≤n∧f.writes.length≤n∧∀ x∈f.writes,x.at_+x.s.size≤n
theorem putAll_le (b:List UInt8) (ws:List WriteM) (n:Nat) (hb:b.length≤n) (h:∀ x∈ws,x.at_+x.s.size≤n):(putAll b ws).length≤n:=by
 induction ws generalizing b with
 | nil=>exact hb
 | cons x ws ih=>
  refine ih (putB b x.at_ x.s.data.toList) ?_ (fun y hy=>h y (List.mem_cons_of_mem _ hy))
  have h1:=putB_le b x.at_ x.s.data.toList
  have h2:=h x (List.mem_cons_self ..)
  have h3:x.s.data.toList.length=x.s.size:=by rw [Array.length_toList];rfl
  omega
set_option maxHeartbeats 1000000 in
set_option maxRecDepth 100000 in
theorem sync_any (e:Ent) (w:World) (h:EntAt w e) (hn:Within e.f 1099511627776) :
 Calls Tryz.prog 157 #[.pointer (some ⟨e.blk,0,none⟩)] w fun en w'=>en = .returned (.tuple #[])∧FileTo w e (syncF e.f) w':=by
 have H:=Lib.hid h
 have HN:=Lib.hid hn
 have c2:=h.cells.2.2.1
 obtain ⟨p,c,hv⟩:∃ p c,e.vw = .slice p e.f.writes.length c:=by
  rcases h.writes.form with ⟨h1,h2⟩|⟨g,cap,h1,_⟩
  ·exact ⟨_,_,by rw [h1,h2];rfl⟩
  ·exact ⟨_,_,h1⟩
 rw [hv] at c2
 have HV:=Lib.hid hv
 obtain ⟨n,hnn⟩:∃ n,n=e.f.writes.length:=⟨_,rfl⟩
 rw [←hnn] at c2
 have hn40:n≤1099511627776:=by rw [hnn];exact hn.2.2.1
 have HNN:=Lib.hid hnn
 clear h hn hv hnn
 go_enter Tryz.func157,Tryz.ntmps157
 go_wp2_with fail
 go_loopw [9] (fun i wr=>∃ k:Nat,k≤n∧i = .int .i64 k∧∃ e1:Ent,e1.f=⟨putAll e.f.image (e.f.writes.take k),e.f.bytes,e.f.writes⟩∧e1.vb=e.vb∧e1.vw=e.vw∧Ent.To w e e1 wr) (fun i _=>n - (intOf i).toNat)
 case atStart=>exact ⟨0,Nat.zero_le _,rfl,e,rfl,rfl,rfl,Ent.To.refl H.out⟩
 case round=>
  obtain ⟨k,hk,rfl,e1,hf1,hb1,hw1,hT⟩:=hrel
  have HF1:=Lib.hid hf1
  have HVB:=Lib.hid hb1
  have HVW:=Lib.hid hw1
  have HT:=Lib.hid hT
  clear hf1 hb1 hw1 hT
  by_cases hlt:k<n
  ·have hlt':k<e.f.writes.length:=by rw [←HNN.out];exact hlt
   obtain ⟨x,hx⟩:∃ x,e.f.writes[k]? = some x:=⟨_,List.getElem?_eq_getElem hlt'⟩
   obtain ⟨g,hpg,hg0,hg1,hg2⟩:∃ g,p=some ⟨g,0,none⟩∧wr.cell? ⟨g,k*3,none⟩=some (.int .i64 x.turn)∧wr.cell? ⟨g,k*3+1,none⟩=some (.int .i64 x.at_)∧wr.cell? ⟨g,k*3+1+1,none⟩=some (.string x.s):=by
    have hwr:WritesAt wr e.vw e.f.writes:=by have:=HT.out.at_.writes;rw [HVW.out,HF1.out] at this;exact this
    rcases hwr.form with ⟨_,h2⟩|⟨g,cap,h1,_,h3⟩
    ·rw [h2] at hx;cases hx
    ·rw [HV.out] at h1
     cases h1
     exact ⟨g,rfl,h3 k x hx⟩
   subst hpg
   obtain ⟨tn,at_,s⟩:=x
   have HX:=Lib.hid hx
   clear hx
   go_wp2_with fail
   rename_i Kc hc
   have hE0:=HT.out.at_
   have hE:EntAt (wr.alloc (.cells #[.int .i64 tn,.int .i64 at_,.string s] 199)) e1:=hE0.chg (S:=fun _=>False) (Chg.alloc _ (Chg.refl _ _) _) (fun _ _ h=>h)
   have b1:(wr.alloc (.cells #[.int .i64 tn,.int .i64 at_,.string s] 199)).cell? ⟨wr.heap.size,1,none⟩=some (.int .i64 at_):=by simp
   have b2:(wr.alloc (.cells #[.int .i64 tn,.int .i64 at_,.string s] 199)).cell? ⟨wr.heap.size,2,none⟩=some (.string s):=by simp
   have hC0:Chg (fun _=>False) wr (wr.alloc (.cells #[.int .i64 tn,.int .i64 at_,.string s] 199)).drew:=(Chg.alloc _ (Chg.refl _ _) _).drew
   obtain ⟨ys,hys⟩:∃ ys,ys=putB e1.f.image at_ s.data.toList:=⟨_,rfl⟩
   have hx:e1.f.image.length≤1099511627776:=by
    rw [HF1.out]
    exact putAll_le _ _ _ HN.out.1 (fun y hy=>HN.out.2.2.2 y (List.mem_of_mem_take hy))
   have ha:at_+s.size≤1099511627776:=HN.out.2.2.2 ⟨tn,at_,s⟩ (List.mem_of_getElem? HX.out)
   generalize wr.alloc (.cells #[.int .i64 tn,.int .i64 at_,.string s] 199)=W0 at *
   have hb1:e1.blk=e.blk:=HT.out.blk
   have c1:=hE.cells.1
   rw [hb1] at c1
   have HB1:=Lib.hid hb1
   have HE1:Hid (EntAt W0.drew e1):=hE.drew
   have HI:Hid (BytesAt W0.drew e1.vi e1.f.image):=hE.image
   have HC0:=Lib.hid hC0
   have HY:=Lib.hid hys
   clear hE hE0 hC0 hys hb1 hg0 hg1 hg2
   refine region_ph (n:=29) 12 [9,12] rfl rfl (by kernel_rfl) (by kernel_rfl) (by kernel_rfl) (fun i v=>match i with|0=>v = .pointer (some ⟨e.blk,0,none⟩)|1=>v = .pointer (some ⟨e.blk,0,none⟩)|2=>v = .pointer (some ⟨e.blk,0,none⟩)|3=>v = .pointer (some ⟨e.blk,0,none⟩)|4=>v=e1.vi|5=>v = .pointer (some ⟨wr.heap.size,1,none⟩)|6=>v = .int .i64 at_|7=>v = .pointer (some ⟨wr.heap.size,2,none⟩)|8=>v = .string s|10=>v = .pointer (some ⟨e.blk,0,none⟩)|11=>v = .pointer (some ⟨e.blk,0,none⟩)|_=>True)
    (fun p f w'=>match p with|0=>W0.drew=w'|1=>PutW W0.drew e1.vi ys (f 22) w'|_=>∃ w1 v',PutW W0.drew e1.vi ys v' w1∧w1.setCell ⟨e.blk,0,none⟩ v'=w') ?_ ?_ ?_
   ·exact rfl
   ·simp only [AllAt]
    refine ⟨?_,?_,?_,?_,?_,?_,?_,?_,?_,?_,?_,?_,?_,trivial⟩
    ·refine StepPh.reg rfl (by decide) (fun d hd=>by cases hd;decide) ?_
     intro f w' p hG hup hdn hfr hp K hK
     have g0:f 0 = .pointer (some ⟨e.blk,0,none⟩):=hfr 0 (by kernel_rfl)
     clear hfr hp hup hdn
     go_simp
     exact hK _ _ rfl hG
    ·refine StepPh.reg rfl (by decide) (fun d hd=>by cases hd;decide) ?_
     intro f w' p hG hup hdn hfr hp K hK
     have g0:f 0 = .pointer (some ⟨e.blk,0,none⟩):=hfr 0 (by kernel_rfl)
     clear hfr hp hup hdn
     go_simp
     exact hK _ _ rfl hG
    ·refine StepPh.reg rfl (by decide) (fun d hd=>by cases hd;decide) ?_
     intro f w' p hG hup hdn hfr hp K hK
     have g14:f 14 = .pointer (some ⟨e.blk,0,none⟩):=hp 1 _ 14 rfl rfl (by kernel_rfl)
     clear hfr hp hup hdn
     go_simp
     exact hK _ _ rfl hG
    ·refine StepPh.reg rfl (by decide) (fun d hd=>by cases hd;decide) ?_
     intro f w' p hG hup hdn hfr hp K hK
     have g15:f 15 = .pointer (some ⟨e.blk,0,none⟩):=hp 2 _ 15 rfl rfl (by kernel_rfl)
     clear hfr hp hup hdn
     go_simp
     exact hK _ _ rfl hG
    ·refine StepPh.reg rfl (by decide) (fun d hd=>by cases hd;decide) ?_
     intro f w' p hG hup hdn hfr hp K hK
     have g16:f 16 = .pointer (some ⟨e.blk,0,none⟩):=hp 3 _ 16 rfl rfl (by kernel_rfl)
     obtain rfl:p=0:=by have:=hdn 0 (by decide) (.inl (by kernel_rfl));omega
     have hGe:W0.drew=w':=hG
     subst hGe
     clear hfr hp hup hdn
     go_simp
     exact hK _ _ rfl hG
    ·refine StepPh.reg rfl (by decide) (fun d hd=>by cases hd;decide) ?_
     intro f w' p hG hup hdn hfr hp K hK
     have g3:f 3 = .pointer (some ⟨wr.heap.size,0,none⟩):=hfr 3 (by kernel_rfl)
     clear hfr hp hup hdn
     go_simp
     exact hK _ _ rfl hG
    ·refine StepPh.reg rfl (by decide) (fun d hd=>by cases hd;decide) ?_
     intro f w' p hG hup hdn hfr hp K hK
     have g18:f 18 = .pointer (some ⟨wr.heap.size,1,none⟩):=hp 5 _ 18 rfl rfl (by kernel_rfl)
     obtain rfl:p=0:=by have:=hdn 0 (by decide) (.inl (by kernel_rfl));omega
     have hGe:W0.drew=w':=hG
     subst hGe
     clear hfr hp hup hdn
     go_simp
     exact hK _ _ rfl hG
    ·refine StepPh.reg rfl (by decide) (fun d hd=>by cases hd;decide) ?_
     intro f w' p hG hup hdn hfr hp K hK
     have g3:f 3 = .pointer (some ⟨wr.heap.size,0,none⟩):=hfr 3 (by kernel_rfl)
     clear hfr hp hup hdn
     go_simp
     exact hK _ _ rfl hG
    ·refine StepPh.reg rfl (by decide) (fun d hd=>by cases hd;decide) ?_
     intro f w' p hG hup hdn hfr hp K hK
     have g20:f 20 = .pointer (some ⟨wr.heap.size,2,none⟩):=hp 7 _ 20 rfl rfl (by kernel_rfl)
     obtain rfl:p=0:=by have:=hdn 0 (by decide) (.inl (by kernel_rfl));omega
     have hGe:W0.drew=w':=hG
     subst hGe
     clear hfr hp hup hdn
     go_simp
     exact hK _ _ rfl hG
    ·refine StepPh.wr 0 rfl (by decide) rfl (fun d hd=>by cases hd;decide) (fun j hj=>by omega) ?_
     intro f w' hG hfr hp K hK
     have g17:f 17=e1.vi:=hp 4 _ 17 rfl rfl (by kernel_rfl)
     have g19:f 19 = .int .i64 at_:=hp 6 _ 19 rfl rfl (by kernel_rfl)
     have g21:f 21 = .string s:=hp 8 _ 21 rfl rfl (by kernel_rfl)
     clear hfr hp
     have hGe:W0.drew=w':=hG
     subst hGe
     go_simp
     refine (put_to HY.out (put_any e1.vi e1.f.image at_ s _ HI.out hx ha)).mono ?_
     rintro en w1 ⟨v',rfl,hb1,hg1,hl1⟩
     exact hK _ _ (fun _=>trivial) ⟨hb1,hg1,hl1⟩
    ·refine StepPh.reg rfl (by decide) (fun d hd=>by cases hd;decide) ?_
     intro f w' p hG hup hdn hfr hp K hK
     have g13:f 13 = .pointer (some ⟨e.blk,0,none⟩):=hp 0 _ 13 rfl rfl (by kernel_rfl)
     clear hfr hp hup hdn
     go_simp
     exact hK _ _ rfl hG
    ·refine StepPh.reg rfl (by decide) (fun d hd=>by cases hd;decide) ?_
     intro f w' p hG hup hdn hfr hp K hK
     have g23:f 23 = .pointer (some ⟨e.blk,0,none⟩):=hp 10 _ 23 rfl rfl (by kernel_rfl)
     clear hfr hp hup hdn
     go_simp
     exact hK _ _ rfl hG
    ·refine StepPh.wr 1 rfl (by decide) rfl (fun d hd=>by cases hd) (fun j hj=>by (obtain rfl:j=0:=(by omega));kernel_rfl) ?_
     intro f w' hG hfr hp K hK
     have g24:f 24 = .pointer (some ⟨e.blk,0,none⟩):=hp 11 _ 24 rfl rfl (by kernel_rfl)
     clear hfr hp
     have hG1:PutW W0.drew e1.vi ys (f 22) w':=hG
     obtain ⟨p',c',g22⟩:=hG1.1.slice
     rw [g22] at hG1
     have hcell:=hG1.cell_vi HE1.out
     have hfz:=hG1.free_vi HE1.out
     rw [HB1.out] at hcell hfz
     go_simp
     exact hK undef _ (fun h=>by cases h) ⟨w',_,hG1,rfl⟩
   ·intro f w1 hG hfr hR
    refine hc _ _ ?_
    clear hR
    obtain ⟨wp,v',hP,rfl⟩:=hG
    have hF:=ent_set_image HE1.out hP.2.1 hP.1 (own_form hP.2.2)
    rw [HB1.out] at hF
    have q0:f 0 = .pointer (some ⟨e.blk,0,none⟩):=hfr 0 (by kernel_rfl)
    have q1:f 1=undef:=hfr 1 (by kernel_rfl)
    have q2:f 2=undef:=hfr 2 (by kernel_rfl)
    have q3:f 3 = .pointer (some ⟨wr.heap.size,0,none⟩):=hfr 3 (by kernel_rfl)
    have q4:f 4 = .pointer (some ⟨e.blk,0,none⟩):=hfr 4 (by kernel_rfl)
    have q5:f 5 = .pointer (some ⟨e.blk,0,none⟩):=hfr 5 (by kernel_rfl)
    have q6:f 6 = .pointer (some ⟨e.blk,2,none⟩):=hfr 6 (by kernel_rfl)
    have q7:f 7 = .slice (some ⟨g,0,none⟩) n c:=hfr 7 (by kernel_rfl)
    have q8:f 8 = .int .i64 n:=hfr 8 (by kernel_rfl)
    have q9:f 9 = .int .i64 k:=hfr 9 (by kernel_rfl)
    have q26:f 26=undef:=hfr 26 (by kernel_rfl)
    have q27:f 27=undef:=hfr 27 (by kernel_rfl)
    have q28:f 28=undef:=hfr 28 (by kernel_rfl)
    rw [show Fr 29 f=⟨#[f 0,f 1,f 2,f 3,f 4,f 5,f 6,f 7,f 8,f 9,f 10,f 11,f 12,f 13,f 14,f 15,f 16,f 17,f 18,f 19,f 20,f 21,f 22,f 23,f 24,f 25,f 26,f 27,f 28],[]⟩ from rfl]
    simp only [q0,q1,q2,q3,q4,q5,q6,q7,q8,q9,q26,q27,q28]
    clear q0 q1 q2 q3 q4 q5 q6 q7 q8 q9 q26 q27 q28 hfr hP
    have HF:=Lib.hid hF
    clear hF
    generalize wp.setCell ⟨e.blk,0,none⟩ v'=W1 at *
    generalize f 10=u10,f 11=u11
    go_wp2_with fail
    refine ⟨⟨k+1,by omega,by go_num,_,?_,?_,?_,HT.out.trans ((Ent.To.new HT.out.at_ HC0.out).trans HF.out)⟩,by simp [intOf];omega⟩
    ·simp only
     rw [HY.out,HF1.out,List.take_add_one,HX.out,Option.toList_some,putAll_snoc]
    ·exact HVB.out
    ·exact HVW.out
  ·have hkn:k=n:=by omega
   have hE:=HT.out.at_
   obtain ⟨_,_,c3,hfz⟩:=hE.cells
   have hb1:e1.blk=e.blk:=HT.out.blk
   rw [hb1] at c3 hfz
   have f3:=hfz 2
   have HK:=Lib.hid hkn
   have HE:=Lib.hid hE
   have HB1:=Lib.hid hb1
   clear hfz hkn hE hb1
   go_wp2_with fail
   go_end0
   have hs:=ent_set_writes (w1:=wr) (v':=.slice none 0 0) (ys:=[]) HE.out (grownBy_refl _ _) (World.ownsRow_nil _ _ _ _) (fun g hg=>by cases hg)
   rw [HB1.out] at hs
   refine ⟨rfl,_,?_,HT.out.trans hs⟩
   simp only
   rw [HF1.out,HK.out,List.take_of_length_le (by rw [HNN.out];exact Nat.le_refl _)]
   rfl
end Go.Proofs.YtajmeimjaapagaaGreatDoor
namespace Go.Proofs.YtajmeimjaapagaaGreatDoor
open Go.RowKit Go.Deep
attribute [local go_sem] fr_opt
theorem slice_cut {w:World} {v:Value} {xs:List UInt8} (h:BytesAt w v xs) (n:Nat) (hn:n≤xs.length) :
 ∃ p c,(∀ w2:World,(Instr.sliceAt 65 v none (some (.int .i64 n)) none).run Tryz.prog w2 = .ok (.slice p n c) w2)∧BytesAt w (.slice p n c) (xs.take n)∧(Value.slice p n c).ownBlock=v.ownBlock:=by
 have hz:∀ w2:World,(sizeOf 5).run Tryz.prog w2 = .ok 1 w2:=fun w2=>by kernel_rfl
 rcases h.form with ⟨rfl,rfl⟩|⟨g,cap,cur,rfl,hg,h1,h2,h3,h4⟩
 ·obtain rfl:n=0:=by simpa using hn
  exact ⟨none,0,fun w2=>by kernel_rfl,BytesAt.nil w,rfl⟩
 ·refine ⟨some ⟨g,0,none⟩,cap,fun w2=>?_,?_,rfl⟩
  ·have hu:=run_underlying (w:=w2) Tryz.underlying65
   have hc:(0:Int)≤(n:Int)∧(n:Int)≤(cap:Int):=by omega
   have hc':n≤cap:=by omega
   simp [Instr.sliceAt,Instr.slice,hu,Instr.sliceBounds,Instr.sliceBound,asIntOf,hc',hz,Result.andThen,Addr.add]
  ·have hl:(xs.take n).length=n:=by rw [List.length_take];omega
   have:=BytesAt.mk (xs:=xs.take n) hg (by omega) h2 h3 (by rw [hl,List.map_take,←h4,List.take_take];congr 1;omega)
   rwa [hl] at this
set_option maxHeartbeats 1000000 in
set_option maxRecDepth 100000 in
theorem cutf_any (e:Ent) (n:Nat) (w:World) (h:EntAt w e) (hi:n≤e.f.image.length) (hb:n≤e.f.bytes.length) :
 Calls Tryz.prog 158 #[.pointer (some ⟨e.blk,0,none⟩),.int .i64 n] w fun en w'=>en = .returned (.tuple #[])∧FileTo w e ⟨e.f.image.take n,e.f.bytes.take n,e.f.writes⟩ w':=by
 obtain ⟨pi,ci,hsi,hbi,hoi⟩:=slice_cut h.image n hi
 obtain ⟨pb,cb,hsb,hbb,hob⟩:=slice_cut h.bytes n hb
 have hT1:=ent_set_image (w1:=w) h (grownBy_refl _ _) hbi (fun g hg=>.inl (hoi▸hg))
 have hT2:=ent_set_bytes (w1:=w.setCell ⟨e.blk,0,none⟩ (.slice pi n ci)) (v':=.slice pb n cb) (ys:=e.f.bytes.take n) hT1.at_ (grownBy_refl _ _)
  ((Chg.setCell (S:=fun k=>k=e.blk) (Chg.refl _ _) (fun _=>rfl) _).bytes hbb (fun g hg hx=>(foot_vb e h.apart (hob▸hg)).1 hx)) (fun g hg=>.inl (hob▸hg))
 have hT:Ent.To w e _ ((w.setCell ⟨e.blk,0,none⟩ (.slice pi n ci)).setCell ⟨e.blk,1,none⟩ (.slice pb n cb)).drew:=(hT1.trans hT2).trans (Ent.To.new (hT1.trans hT2).at_ (Chg.refl _ _).drew)
 obtain ⟨c0,c1,c2,hfz⟩:=h.cells
 have f0:=hfz 0
 have f1:=hfz 1
 have HT:=Lib.hid hT
 have HSI:=Lib.hid hsi
 have HSB:=Lib.hid hsb
 clear hfz h hsi hbi hoi hsb hbb hob hT1 hT2 hT hi hb
 go_enter Tryz.func158,Tryz.ntmps158
 go_wp2_with fail
 refine region_ph (n:=22) 12 [16,19] rfl rfl (by kernel_rfl) (by kernel_rfl) (by kernel_rfl) (fun i v=>match i with|0=>v = .pointer (some ⟨e.blk,0,none⟩)|1=>v = .pointer (some ⟨e.blk,0,none⟩)|2=>v = .pointer (some ⟨e.blk,0,none⟩)|3=>v = .pointer (some ⟨e.blk,0,none⟩)|4=>v = .pointer (some ⟨e.blk,0,none⟩)|5=>v=e.vi|6=>v = .int .i64 n|7=>v = .slice pi n ci|8=>v = .pointer (some ⟨e.blk,0,none⟩)|9=>v = .pointer (some ⟨e.blk,0,none⟩)|10=>v = .pointer (some ⟨e.blk,1,none⟩)|11=>v=e.vb|12=>v = .int .i64 n|13=>v = .slice pb n cb|14=>v = .pointer (some ⟨e.blk,0,none⟩)|15=>v = .pointer (some ⟨e.blk,0,none⟩)|17=>v = .pointer (some ⟨e.blk,0,none⟩)|18=>v = .pointer (some ⟨e.blk,1,none⟩)|_=>True)
  (fun p f w'=>match p with|0=>w.drew=w'|1=>(w.setCell ⟨e.blk,0,none⟩ (.slice pi n ci)).drew=w'|_=>((w.setCell ⟨e.blk,0,none⟩ (.slice pi n ci)).setCell ⟨e.blk,1,none⟩ (.slice pb n cb)).drew=w') ?_ ?_ ?_
 ·exact rfl
 ·simp only [AllAt]
  refine ⟨?_,?_,?_,?_,?_,?_,?_,?_,?_,?_,?_,?_,?_,?_,?_,?_,?_,?_,?_,?_,trivial⟩
  ·refine StepPh.reg rfl (by decide) (fun d hd=>by cases hd;decide) ?_
   intro f w' p hG hup hdn hfr hp K hK
   have g0:f 0 = .pointer (some ⟨e.blk,0,none⟩):=hfr 0 (by kernel_rfl)
   clear hfr hp hup hdn
   go_simp
   exact hK _ _ rfl hG
  ·refine StepPh.reg rfl (by decide) (fun d hd=>by cases hd;decide) ?_
   intro f w' p hG hup hdn hfr hp K hK
   have g0:f 0 = .pointer (some ⟨e.blk,0,none⟩):=hfr 0 (by kernel_rfl)
   clear hfr hp hup hdn
   go_simp
   exact hK _ _ rfl hG
  ·refine StepPh.reg rfl (by decide) (fun d hd=>by cases hd;decide) ?_
   intro f w' p hG hup hdn hfr hp K hK
   have g0:f 0 = .pointer (some ⟨e.blk,0,none⟩):=hfr 0 (by kernel_rfl)
   clear hfr hp hup hdn
   go_simp
   exact hK _ _ rfl hG
  ·refine StepPh.reg rfl (by decide) (fun d hd=>by cases hd;decide) ?_
   intro f w' p hG hup hdn hfr hp K hK
   have g6:f 6 = .pointer (some ⟨e.blk,0,none⟩):=hp 2 _ 6 rfl rfl (by kernel_rfl)
   clear hfr hp hup hdn
   go_simp
   exact hK _ _ rfl hG
  ·refine StepPh.reg rfl (by decide) (fun d hd=>by cases hd;decide) ?_
   intro f w' p hG hup hdn hfr hp K hK
   have g7:f 7 = .pointer (some ⟨e.blk,0,none⟩):=hp 3 _ 7 rfl rfl (by kernel_rfl)
   clear hfr hp hup hdn
   go_simp
   exact hK _ _ rfl hG
  ·refine StepPh.reg rfl (by decide) (fun d hd=>by cases hd;decide) ?_
   intro f w' p hG hup hdn hfr hp K hK
   have g8:f 8 = .pointer (some ⟨e.blk,0,none⟩):=hp 4 _ 8 rfl rfl (by kernel_rfl)
   obtain rfl:p=0:=by have:=hdn 0 (by decide) (.inl (by kernel_rfl));omega
   have hGe:w.drew=w':=hG
   subst hGe
   clear hfr hp hup hdn
   go_simp
   exact hK _ _ rfl hG
  ·refine StepPh.reg rfl (by decide) (fun d hd=>by cases hd;decide) ?_
   intro f w' p hG hup hdn hfr hp K hK
   have g1:f 1 = .int .i64 n:=hfr 1 (by kernel_rfl)
   clear hfr hp hup hdn
   go_simp
   exact hK _ _ rfl hG
  ·refine StepPh.reg rfl (by decide) (fun d hd=>by cases hd;decide) ?_
   intro f w' p hG hup hdn hfr hp K hK
   have g9:f 9=e.vi:=hp 5 _ 9 rfl rfl (by kernel_rfl)
   have g10:f 10 = .int .i64 n:=hp 6 _ 10 rfl rfl (by kernel_rfl)
   clear hfr hp hup hdn
   unfold Oper.wp
   simp [execOp,fr_eval,g9,g10,HSI.out,Result.andThen]
   exact hK _ _ rfl hG
  ·refine StepPh.reg rfl (by decide) (fun d hd=>by cases hd;decide) ?_
   intro f w' p hG hup hdn hfr hp K hK
   have g0:f 0 = .pointer (some ⟨e.blk,0,none⟩):=hfr 0 (by kernel_rfl)
   clear hfr hp hup hdn
   go_simp
   exact hK _ _ rfl hG
  ·refine StepPh.reg rfl (by decide) (fun d hd=>by cases hd;decide) ?_
   intro f w' p hG hup hdn hfr hp K hK
   have g12:f 12 = .pointer (some ⟨e.blk,0,none⟩):=hp 8 _ 12 rfl rfl (by kernel_rfl)
   clear hfr hp hup hdn
   go_simp
   exact hK _ _ rfl hG
  ·refine StepPh.reg rfl (by decide) (fun d hd=>by cases hd;decide) ?_
   intro f w' p hG hup hdn hfr hp K hK
   have g13:f 13 = .pointer (some ⟨e.blk,0,none⟩):=hp 9 _ 13 rfl rfl (by kernel_rfl)
   clear hfr hp hup hdn
   go_simp
   exact hK _ _ rfl hG
  ·refine StepPh.reg rfl (by decide) (fun d hd=>by cases hd;decide) ?_
   intro f w' p hG hup hdn hfr hp K hK
   have g14:f 14 = .pointer (some ⟨e.blk,1,none⟩):=hp 10 _ 14 rfl rfl (by kernel_rfl)
   have hpp:p=0∨p=1:=by have:=hdn 1 (by decide) (.inl (by kernel_rfl));omega
   clear hfr hp hup hdn
   rcases hpp with rfl|rfl
   ·have hGe:w.drew=w':=hG
    subst hGe
    go_simp
    exact hK _ _ rfl hG
   ·have hGe:(w.setCell ⟨e.blk,0,none⟩ (.slice pi n ci)).drew=w':=hG
    subst hGe
    go_simp
    exact hK _ _ rfl hG
  ·refine StepPh.reg rfl (by decide) (fun d hd=>by cases hd;decide) ?_
   intro f w' p hG hup hdn hfr hp K hK
   have g1:f 1 = .int .i64 n:=hfr 1 (by kernel_rfl)
   clear hfr hp hup hdn
   go_simp
   exact hK _ _ rfl hG
  ·refine StepPh.reg rfl (by decide) (fun d hd=>by cases hd;decide) ?_
   intro f w' p hG hup hdn hfr hp K hK
   have g15:f 15=e.vb:=hp 11 _ 15 rfl rfl (by kernel_rfl)
   have g16:f 16 = .int .i64 n:=hp 12 _ 16 rfl rfl (by kernel_rfl)
   clear hfr hp hup hdn
   unfold Oper.wp
   simp [execOp,fr_eval,g15,g16,HSB.out,Result.andThen]
   exact hK _ _ rfl hG
  ·refine StepPh.reg rfl (by decide) (fun d hd=>by cases hd;decide) ?_
   intro f w' p hG hup hdn hfr hp K hK
   have g4:f 4 = .pointer (some ⟨e.blk,0,none⟩):=hp 0 _ 4 rfl rfl (by kernel_rfl)
   clear hfr hp hup hdn
   go_simp
   exact hK _ _ rfl hG
  ·refine StepPh.reg rfl (by decide) (fun d hd=>by cases hd;decide) ?_
   intro f w' p hG hup hdn hfr hp K hK
   have g18:f 18 = .pointer (some ⟨e.blk,0,none⟩):=hp 14 _ 18 rfl rfl (by kernel_rfl)
   clear hfr hp hup hdn
   go_simp
   exact hK _ _ rfl hG
  ·refine StepPh.wr 0 rfl (by decide) rfl (fun d hd=>by cases hd) (fun j hj=>by omega) ?_
   intro f w' hG hfr hp K hK
   have g19:f 19 = .pointer (some ⟨e.blk,0,none⟩):=hp 15 _ 19 rfl rfl (by kernel_rfl)
   have g11:f 11 = .slice pi n ci:=hp 7 _ 11 rfl rfl (by kernel_rfl)
   clear hfr hp
   have hGe:w.drew=w':=hG
   subst hGe
   go_simp
   exact hK undef _ (fun h=>by cases h) rfl
  ·refine StepPh.reg rfl (by decide) (fun d hd=>by cases hd;decide) ?_
   intro f w' p hG hup hdn hfr hp K hK
   have g5:f 5 = .pointer (some ⟨e.blk,0,none⟩):=hp 1 _ 5 rfl rfl (by kernel_rfl)
   clear hfr hp hup hdn
   go_simp
   exact hK _ _ rfl hG
  ·refine StepPh.reg rfl (by decide) (fun d hd=>by cases hd;decide) ?_
   intro f w' p hG hup hdn hfr hp K hK
   have g20:f 20 = .pointer (some ⟨e.blk,0,none⟩):=hp 17 _ 20 rfl rfl (by kernel_rfl)
   clear hfr hp hup hdn
   go_simp
   exact hK _ _ rfl hG
  ·refine StepPh.wr 1 rfl (by decide) rfl (fun d hd=>by cases hd) (fun j hj=>by (obtain rfl:j=0:=(by omega));kernel_rfl) ?_
   intro f w' hG hfr hp K hK
   have g21:f 21 = .pointer (some ⟨e.blk,1,none⟩):=hp 18 _ 21 rfl rfl (by kernel_rfl)
   have g17:f 17 = .slice pb n cb:=hp 13 _ 17 rfl rfl (by kernel_rfl)
   clear hfr hp
   have hGe:(w.setCell ⟨e.blk,0,none⟩ (.slice pi n ci)).drew=w':=hG
   subst hGe
   go_simp
   exact hK undef _ (fun h=>by cases h) rfl
 ·intro f w1 hG hfr hR
  obtain rfl:=hG
  clear hfr hR
  refine bodyPost_end (P:=Tryz.prog) (results_none (fn:=Tryz.f158) rfl _ _ _) rfl ⟨rfl,_,?_,HT.out⟩
  rfl
end Go.Proofs.YtajmeimjaapagaaGreatDoor
/- A part. -/
set_option linter.unusedVariables false
set_option linter.unusedSimpArgs false
namespace Go.Proofs.YtajmeimjaapagaaGreatDoor
open Go.RowKit Go.Deep
attribute [local go_sem] fr_opt
end Go.Proofs.YtajmeimjaapagaaGreatDoor
/- A part. -/
set_option linter.unusedVariables false
set_option linter.unusedSimpArgs false
namespace Go.Proofs.YtajmeimjaapagaaGreatDoor
open Go.RowKit Go.Deep
structure St where
 lit:Bool
 down:Bool
 left:Int
 cap:Nat
 size:Nat
 turn:Nat
 fs:List (ByteArray×FileM)
structure Gh where
 d:Nat
 mb:Option Nat
 es:List Ent
def Gh.fp (g:Gh):List Nat:=g.d :: (g.mb.toList ++ g.es.flatMap Ent.foot)
def nf (e:Ent):ByteArray×FileM:=(e.name,e.f)
structure DiskAt (w:World) (g:Gh) (st:St):Prop where
 head:w.heap[g.d]? = some (.cells #[.bool st.lit,.bool st.down,.int .i64 st.left,.int .i64 st.cap,.int .i64 st.size,.int .i64 st.turn,.map g.mb] 128 (0,0))
 map:MapIn w g.mb g.es
 ents:∀ e∈g.es,EntAt w e
 apart:g.fp.Nodup
 fs:g.es.map nf=st.fs
structure Gh.To (w:World) (g g':Gh) (w':World):Prop where
 chg:Chg (·∈g.fp) w w'
 fp:∀ k∈g'.fp,k∈g.fp∨w.heap.size≤k
 d:g'.d=g.d
theorem Gh.To.refl (w:World) (g:Gh):Gh.To w g g w:=⟨Chg.refl _ _,fun _ h=>.inl h,rfl⟩
theorem Gh.To.trans {w w1 w2:World} {g g1 g2:Gh} (h:Gh.To w g g1 w1) (k:Gh.To w1 g1 g2 w2):Gh.To w g g2 w2:=by
 have hs:=h.chg.size
 refine ⟨h.chg.trans k.chg (fun i hi hx=>?_),fun i hi=>?_,k.d.trans h.d⟩
 ·rcases h.fp i hx with h1|h1
  ·exact h1
  ·omega
 ·rcases k.fp i hi with h1|h1
  ·exact h.fp i h1
  ·exact .inr (by omega)
theorem Gh.To.new {w w':World} (g:Gh) (hc:Chg (fun _=>False) w w'):Gh.To w g g w':=⟨hc.wide (fun _ _ x=>x.elim),fun _ h=>.inl h,rfl⟩
theorem mem_fp_d (g:Gh):g.d∈g.fp:=List.mem_cons_self ..
theorem mem_fp_mb (g:Gh) {m:Nat} (h:g.mb=some m):m∈g.fp:=by simp [Gh.fp,h]
theorem mem_fp_ent (g:Gh) {e:Ent} (he:e∈g.es) {k:Nat} (hk:k∈e.foot):k∈g.fp:=by
 unfold Gh.fp
 exact List.mem_cons_of_mem _ (List.mem_append_right _ (List.mem_flatMap.2 ⟨e,he,hk⟩))
theorem DiskAt.chg {S:Nat→Prop} {w w':World} {g:Gh} {st:St} (h:DiskAt w g st) (hc:Chg S w w') (hn:∀ k∈g.fp,¬ S k):DiskAt w' g st:=
 ⟨hc.heap h.head (hn _ (mem_fp_d g)),h.map.chg hc (fun m hm=>hn m (mem_fp_mb g hm)),fun e he=>(h.ents e he).chg hc (fun k hk=>hn k (mem_fp_ent g he hk)),h.apart,h.fs⟩
theorem DiskAt.new {w w':World} {g:Gh} {st:St} (h:DiskAt w g st) (hc:Chg (fun _=>False) w w'):DiskAt w' g st:=h.chg hc (fun _ _ x=>x)
theorem DiskAt.lt {w:World} {g:Gh} {st:St} (h:DiskAt w g st):∀ k∈g.fp,k<w.heap.size:=by
 intro k hk
 simp only [Gh.fp,List.mem_cons,List.mem_append,Option.mem_toList,List.mem_flatMap] at hk
 rcases hk with rfl|hk|⟨e,he,hk⟩
 ·exact (Array.getElem?_eq_some_iff.1 h.head).1
 ·have:=h.map
  rw [hk] at this
  exact this.lt
 ·exact (h.ents e he).lt k hk
theorem DiskAt.drew {w:World} {g:Gh} {st:St} (h:DiskAt w g st):DiskAt w.drew g st:=h.new (Chg.refl _ _).drew
theorem DiskAt.cells {w:World} {g:Gh} {st:St} (h:DiskAt w g st):w.cell? ⟨g.d,0,none⟩=some (.bool st.lit)∧w.cell? ⟨g.d,1,none⟩=some (.bool st.down)∧w.cell? ⟨g.d,2,none⟩=some (.int .i64 st.left)∧w.cell? ⟨g.d,3,none⟩=some (.int .i64 st.cap) ∧
 w.cell? ⟨g.d,4,none⟩=some (.int .i64 st.size)∧w.cell? ⟨g.d,5,none⟩=some (.int .i64 st.turn)∧w.cell? ⟨g.d,6,none⟩=some (.map g.mb)∧∀ i,w.frozen? ⟨g.d,i,none⟩=false:=by
 refine ⟨?_,?_,?_,?_,?_,?_,?_,fun i=>?_⟩<;>simp [World.cell?,World.frozen?,h.head]
def St.find (st:St) (nm:ByteArray):Option FileM:=(st.fs.find? fun p=>decide (p.1=nm)).map (·.2)
theorem DiskAt.find {w:World} {g:Gh} {st:St} (h:DiskAt w g st) (nm:ByteArray):(getE g.es nm).map (·.f)=st.find nm:=by
 unfold St.find getE
 rw [←h.fs,List.find?_map,Option.map_map]
 rfl
theorem DiskAt.has {w:World} {g:Gh} {st:St} (h:DiskAt w g st) (nm:ByteArray):(getE g.es nm).isSome=(st.find nm).isSome:=by
 rw [←h.find nm];simp
theorem DiskAt.found {w:World} {g:Gh} {st:St} (h:DiskAt w g st) {nm:ByteArray} {f:FileM} (hf:st.find nm=some f):∃ e∈g.es,getE g.es nm=some e∧e.f=f∧e.name=nm:=by
 have h1:=h.find nm
 rw [hf] at h1
 cases hq:getE g.es nm with
 | none=>rw [hq] at h1;cases h1
 | some e=>
  rw [hq] at h1
  obtain ⟨hm,hn⟩:=getE_mem hq
  exact ⟨e,hm,rfl,by simpa using h1,hn⟩
theorem DiskAt.set {w:World} {g:Gh} {st:St} (h:DiskAt w g st) (i:Nat) (v:Value) (st':St) (hf:st'.fs=st.fs)
 (hc:#[Value.bool st.lit,.bool st.down,.int .i64 st.left,.int .i64 st.cap,.int .i64 st.size,.int .i64 st.turn,.map g.mb].setIfInBounds i v = #[.bool st'.lit,.bool st'.down,.int .i64 st'.left,.int .i64 st'.cap,.int .i64 st'.size,.int .i64 st'.turn,.map g.mb]) :
 DiskAt (w.setCell ⟨g.d,i,none⟩ v) g st'∧Gh.To w g g (w.setCell ⟨g.d,i,none⟩ v):=by
 have k2:Chg (fun k=>k=g.d) w (w.setCell ⟨g.d,i,none⟩ v):=Chg.setCell (S:=fun k=>k=g.d) (Chg.refl _ _) (fun _=>rfl) _
 have hap:=h.apart
 unfold Gh.fp at hap
 rw [List.nodup_cons] at hap
 refine ⟨⟨?_,h.map.chg k2 (fun m hm hx=>hap.1 ?_),fun e he=>(h.ents e he).chg k2 (fun k hk hx=>hap.1 ?_),h.apart,h.fs.trans hf.symm⟩,⟨k2.wide (fun k _ hk=>hk▸mem_fp_d g),fun k hk=>.inl hk,rfl⟩⟩
 ·rw [←hc]
  exact heap_setCell_same w g.d i _ _ v h.head
 ·rw [←hx,hm];simp
 ·rw [←hx];exact List.mem_append_right _ (List.mem_flatMap.2 ⟨e,he,hk⟩)
theorem ret_of {a b:Int} (h:a=b):Ending.returned (.int .i64 a) = .returned (.int .i64 b):=by rw [h]
set_option maxRecDepth 100000 in
theorem within_any (n most:Int) (w:World):Calls Tryz.prog 67 #[.int .i64 n,.int .i64 most] w fun e w'=>e = .returned (.int .i64 (min (max n 0) most))∧w=w':=by
 go_enter Tryz.func67,Tryz.ntmps67
 go_wp2_with fail
 all_goals
  go_ret
  exact ⟨ret_of (by omega),rfl⟩
def newSt (c:Int):St:=⟨false,false,0,(min (max c 0) 16777216).toNat,0,0,[]⟩
def NewTo (c:Int) (w:World) (e:Ending) (w':World):Prop:=e = .returned (.pointer (some ⟨w.heap.size,0,none⟩))∧DiskAt w' ⟨w.heap.size,none,[]⟩ (newSt c)∧Below w.heap.size w w'
theorem new_to (c:Int) (w:World) (k:Int) (hk:k=min (max c 0) 16777216):NewTo c w (.returned (.pointer (some ⟨w.heap.size,0,none⟩))) (w.alloc (.cells #[.bool false,.bool false,.int .i64 0,.int .i64 k,.int .i64 0,.int .i64 0,.map none] 128)):=by
 have hk':k=((min (max c 0) 16777216).toNat:Int):=by omega
 refine ⟨rfl,⟨?_,⟨List.nodup_nil,rfl⟩,(by intro e he;cases he),by simp [Gh.fp],rfl⟩,(Below.refl _ _).alloc (Nat.le_refl _) _⟩
 rw [hk']
 exact heap_alloc_new w _
set_option maxRecDepth 100000 in
theorem new_any (c:Int) (w:World):Calls Tryz.prog 30 #[.int .i64 c] w (NewTo c w):=by
 obtain ⟨k,hk⟩:∃ k,k=min (max c 0) 16777216:=⟨_,rfl⟩
 have HK:=Lib.hid hk
 have hw:∀ w,Calls Tryz.prog 67 #[.int .i64 c,.int .i64 16777216] w fun e w'=>e = .returned (.int .i64 k)∧w=w':=fun w=>hk▸within_any c 16777216 w
 clear hk
 have HW:=Lib.hid hw
 clear hw
 go_enter Tryz.func30,Tryz.ntmps30
 go_wp2_with (go_at_call 67;refine (HW.out _).mono ?_;rintro e w' ⟨rfl,rfl⟩)
 go_ret
 exact new_to c w k HK.out
def burnE (st:St):Int:=if st.lit=true∧st.left=0 then 8 else 0
def burnS (st:St):St:=if st.lit=true then (if st.left=0 then { st with down:=true } else { st with left:=st.left - 1 }) else st
def BurnTo (g:Gh) (st:St) (w:World) (e:Ending) (w':World):Prop:=e = .returned (.int .i64 (burnE st))∧DiskAt w' g (burnS st)∧Gh.To w g g w'
set_option maxRecDepth 100000 in
theorem burn_any (g:Gh) (st:St) (w:World) (h:DiskAt w g st) (hl:st.lit=true→0≤st.left) (hb:st.left≤9223372036854775807) :
 Calls Tryz.prog 112 #[.pointer (some ⟨g.d,0,none⟩)] w (BurnTo g st w):=by
 obtain ⟨c0,c1,c2,c3,c4,c5,c6,hz⟩:=h.cells
 have z1:=hz 1
 have z2:=hz 2
 have H:=Lib.hid h
 clear hz h
 cases hq:st.lit with
 | false=>
  rw [hq] at c0
  have HQ:=Lib.hid hq
  clear hl hq
  go_enter Tryz.func112,Tryz.ntmps112
  go_wp2_with fail
  go_ret
  exact ⟨by simp [burnE,HQ.out],by simp only [burnS,HQ.out];exact H.out,Gh.To.refl _ _⟩
 | true=>
  rw [hq] at c0
  have HQ:=Lib.hid hq
  have hl0:=hl hq
  clear hl hq
  by_cases h0:st.left=0
  ·have H0:=Lib.hid h0
   rw [h0] at c2
   clear h0
   go_enter Tryz.func112,Tryz.ntmps112
   go_wp2_with fail
   go_ret
   have hs:=H.out.set 1 (.bool true) { st with down:=true } rfl rfl
   exact ⟨by simp [burnE,HQ.out,H0.out],by unfold burnS;rw [if_pos HQ.out,if_pos H0.out];exact hs.1,hs.2⟩
  ·have H0:=Lib.hid h0
   have hne:(st.left == 0)=false:=by simpa using h0
   have hge:1≤st.left:=by omega
   clear h0
   go_enter Tryz.func112,Tryz.ntmps112
   go_wp2_with fail
   go_ret
   have hs:=H.out.set 2 (.int .i64 (st.left - 1)) { st with left:=st.left - 1 } rfl rfl
   exact ⟨by simp [burnE,H0.out],by unfold burnS;rw [if_pos HQ.out,if_neg H0.out];exact hs.1,hs.2⟩
end Go.Proofs.YtajmeimjaapagaaGreatDoor
