/- A part. -/
import Derived.Test.YtnemlgfldfedpaaGreatDoorTcr18
set_option linter.unusedVariables false
set_option linter.unusedSimpArgs false
namespace Go.Proofs.YtnemlgfldfedpaaGreatDoor
open Go.RowKit Go.Deep
attribute [local go_sem] fr_opt
def loseF (f:FileM):FileM:=if f.writes=[] then f else ⟨f.image,f.image,[]⟩
theorem append_bytes {w:World} {v u:Value} {xs:List UInt8} (h:BytesAt w v []) (hu:BytesAt w u xs) (hx:xs.length≤1099511627776) (ty:TypeId) :
 ∃ v' w',(Builtin.append_ #[81,81] ty #[v,u]).run Tryz.prog w = .ok v' w'∧PutW w v xs v' w':=by
 obtain ⟨i0,hi,hz0,hz1,hz2⟩:=info_parts info_u8
 rcases hu.form with ⟨rfl,rfl⟩|⟨g,cap,cur,rfl,hg,h1,h2,h3,h4⟩
 ·have hrun:=run_append_owned_none (P:=Tryz.prog) (w:=w) 0 81 ty 5 i0 1 Tryz.underlying81 hi v 0 [] h
  exact ⟨v,w,hrun,h,grownBy_refl _ _,.inl rfl⟩
 ·obtain ⟨v',w',hrun,a1,a2,_,a3⟩:=run_append_own_at (P:=Tryz.prog) w 0 81 ty 5 i0 _ 1 1 Tryz.underlying81 hi hz0 hz1 hz2 rfl (by decide) v 0 [] h ⟨g,0,none⟩ xs.length cap (xs.map by8) (by simp)
   (fun j u hj=>by
    rw [add_none]
    have hjl:j<xs.length:=by have:=(List.getElem?_eq_some_iff.1 hj).1;simpa using this
    have e1:(cur.toList.take xs.length)[j]? = some u:=by rw [h4];exact hj
    rw [List.getElem?_take,if_pos hjl,Array.getElem?_toList] at e1
    simp [World.cell?,hg,e1])
   (fun u hu=>by obtain ⟨c,_,rfl⟩:=List.mem_map.1 hu;rfl) (by unfold maxLen;omega) (by omega) (Nat.zero_le _)
  refine ⟨v',w',hrun,?_,a2,a3.elim .inl (fun x=>.inr ⟨_,x,Nat.le_refl _⟩)⟩
  simpa [BytesAt] using a1
theorem fr_const (n:Nat) (f:Nat→Value) (v:Value):(Fr n f).eval (.const v)=v:=rfl
theorem WritesAt.slice {w:World} {v:Value} {ws:List WriteM} (h:WritesAt w v ws):∃ p c,v = .slice p ws.length c:=by
 rcases h.form with ⟨h1,h2⟩|⟨g,cap,h1,_⟩
 ·exact ⟨_,_,by rw [h1,h2];rfl⟩
 ·exact ⟨_,_,h1⟩
set_option maxHeartbeats 1000000 in
set_option maxRecDepth 100000 in
theorem lose_any (e:Ent) (w:World) (h:EntAt w e) (hn:Within e.f 1099511627776) :
 Calls Tryz.prog 39 #[.pointer (some ⟨e.blk,0,none⟩)] w fun en w'=>en = .returned (.tuple #[])∧FileTo w e (loseF e.f) w':=by
 obtain ⟨c0,c1,c2,hfz⟩:=h.cells
 obtain ⟨pw,cw,hv⟩:=h.writes.slice
 rw [hv] at c2
 obtain ⟨n,hnn⟩:∃ n,n=e.f.writes.length:=⟨_,rfl⟩
 rw [←hnn] at c2
 have hn40:n≤1099511627776:=by rw [hnn];exact hn.2.2.1
 have H:=Lib.hid h
 have HNN:=Lib.hid hnn
 clear hfz hv
 cases n with
 | zero=>
  clear hnn h hn
  go_enter Tryz.func39,Tryz.ntmps39
  go_wp2_with fail
  go_end0
  refine ⟨rfl,e,?_,Ent.To.refl H.out⟩
  have:e.f.writes=[]:=List.length_eq_zero_iff.1 HNN.out.symm
  simp [loseF,this]
 | succ m=>
  have HM:Hid (m+1=e.f.writes.length):=hnn
  obtain ⟨pb,cb,hsb,hbb,hob⟩:=slice_cut h.bytes 0 (Nat.zero_le _)
  have hap:∀ ty,∃ v' w',(Builtin.append_ #[81,81] ty #[.slice pb 0 cb,e.vi]).run Tryz.prog w.drew = .ok v' w'∧PutW w.drew e.vb e.f.image v' w':=fun ty=>by
   obtain ⟨v',w',h1,h2,h3,h4⟩:=append_bytes (w:=w.drew) (v:=.slice pb 0 cb) (u:=e.vi) (xs:=e.f.image) hbb h.drew.image hn.1 ty
   rw [hob] at h3 h4
   exact ⟨v',w',h1,h2,h3,h4⟩
  have HSB:Hid (∀ w2:World,(Instr.sliceAt 81 e.vb none (some (.int .i64 0)) none).run Tryz.prog w2 = .ok (.slice pb 0 cb) w2):=hsb
  have HAP:=Lib.hid hap
  clear hsb hbb hob hap hnn h hn
  go_enter Tryz.func39,Tryz.ntmps39
  go_wp2_with fail
  rename_i Kc hc
  refine region_ph (n:=24) 12 [10,13] rfl rfl (by kernel_rfl) (by kernel_rfl) (by kernel_rfl) (fun i v=>match i with|0=>v = .pointer (some ⟨e.blk,0,none⟩)|1=>v = .pointer (some ⟨e.blk,0,none⟩)|2=>v = .pointer (some ⟨e.blk,0,none⟩)|3=>v = .pointer (some ⟨e.blk,1,none⟩)|4=>v=e.vb|5=>v = .slice pb 0 cb|6=>v = .pointer (some ⟨e.blk,0,none⟩)|7=>v = .pointer (some ⟨e.blk,0,none⟩)|8=>v = .pointer (some ⟨e.blk,0,none⟩)|9=>v=e.vi|11=>v = .pointer (some ⟨e.blk,0,none⟩)|12=>v = .pointer (some ⟨e.blk,1,none⟩)|_=>True)
   (fun p f w'=>match p with|0=>w.drew=w'|1=>PutW w.drew e.vb e.f.image (f 18) w'|_=>∃ w1 v',PutW w.drew e.vb e.f.image v' w1∧w1.setCell ⟨e.blk,1,none⟩ v'=w') ?_ ?_ ?_
  ·exact rfl
  ·simp only [AllAt]
   refine ⟨?_,?_,?_,?_,?_,?_,?_,?_,?_,?_,?_,?_,?_,?_,trivial⟩
   ·refine StepPh.reg rfl (by decide) (fun d hd=>by cases hd;decide) ?_
    intro f w' p hG hup hdn hfr hp K hK
    have g0:f 0 = .pointer (some ⟨e.blk,0,none⟩):=hfr 0 (by kernel_rfl)
    clear hfr hp hup hdn
    go_simp
    exact hK _ _ rfl hG
   ·refine StepPh.reg rfl (by decide) (fun d hd=>by cases hd;decide) ?_
    intro f w' p hG hup hdn hfr hp K hK
    have g0:f 0 = .pointer (some ⟨e.blk,0,none⟩):=hfr 0 (by kernel_rfl)
    clear hfr hp hup hdn
    go_simp
    exact hK _ _ rfl hG
   ·refine StepPh.reg rfl (by decide) (fun d hd=>by cases hd;decide) ?_
    intro f w' p hG hup hdn hfr hp K hK
    have g9:f 9 = .pointer (some ⟨e.blk,0,none⟩):=hp 1 _ 9 rfl rfl (by kernel_rfl)
    clear hfr hp hup hdn
    go_simp
    exact hK _ _ rfl hG
   ·refine StepPh.reg rfl (by decide) (fun d hd=>by cases hd;decide) ?_
    intro f w' p hG hup hdn hfr hp K hK
    have g10:f 10 = .pointer (some ⟨e.blk,0,none⟩):=hp 2 _ 10 rfl rfl (by kernel_rfl)
    clear hfr hp hup hdn
    go_simp
    exact hK _ _ rfl hG
   ·refine StepPh.reg rfl (by decide) (fun d hd=>by cases hd;decide) ?_
    intro f w' p hG hup hdn hfr hp K hK
    have g11:f 11 = .pointer (some ⟨e.blk,1,none⟩):=hp 3 _ 11 rfl rfl (by kernel_rfl)
    obtain rfl:p=0:=by have:=hdn 0 (by decide) (.inl (by kernel_rfl));omega
    have hGe:w.drew=w':=hG
    subst hGe
    clear hfr hp hup hdn
    go_simp
    exact hK _ _ rfl hG
   ·refine StepPh.reg rfl (by decide) (fun d hd=>by cases hd;decide) ?_
    intro f w' p hG hup hdn hfr hp K hK
    have g12:f 12=e.vb:=hp 4 _ 12 rfl rfl (by kernel_rfl)
    clear hfr hp hup hdn
    unfold Oper.wp
    simp [execOp,fr_eval,fr_const,g12,HSB.out,Result.andThen]
    exact hK _ _ rfl hG
   ·refine StepPh.reg rfl (by decide) (fun d hd=>by cases hd;decide) ?_
    intro f w' p hG hup hdn hfr hp K hK
    have g0:f 0 = .pointer (some ⟨e.blk,0,none⟩):=hfr 0 (by kernel_rfl)
    clear hfr hp hup hdn
    go_simp
    exact hK _ _ rfl hG
   ·refine StepPh.reg rfl (by decide) (fun d hd=>by cases hd;decide) ?_
    intro f w' p hG hup hdn hfr hp K hK
    have g14:f 14 = .pointer (some ⟨e.blk,0,none⟩):=hp 6 _ 14 rfl rfl (by kernel_rfl)
    clear hfr hp hup hdn
    go_simp
    exact hK _ _ rfl hG
   ·refine StepPh.reg rfl (by decide) (fun d hd=>by cases hd;decide) ?_
    intro f w' p hG hup hdn hfr hp K hK
    have g15:f 15 = .pointer (some ⟨e.blk,0,none⟩):=hp 7 _ 15 rfl rfl (by kernel_rfl)
    clear hfr hp hup hdn
    go_simp
    exact hK _ _ rfl hG
   ·refine StepPh.reg rfl (by decide) (fun d hd=>by cases hd;decide) ?_
    intro f w' p hG hup hdn hfr hp K hK
    have g16:f 16 = .pointer (some ⟨e.blk,0,none⟩):=hp 8 _ 16 rfl rfl (by kernel_rfl)
    obtain rfl:p=0:=by have:=hdn 0 (by decide) (.inl (by kernel_rfl));omega
    have hGe:w.drew=w':=hG
    subst hGe
    clear hfr hp hup hdn
    go_simp
    exact hK _ _ rfl hG
   ·refine StepPh.wr 0 rfl (by decide) rfl (fun d hd=>by cases hd;decide) (fun j hj=>by omega) ?_
    intro f w' hG hfr hp K hK
    have g13:f 13 = .slice pb 0 cb:=hp 5 _ 13 rfl rfl (by kernel_rfl)
    have g17:f 17=e.vi:=hp 9 _ 17 rfl rfl (by kernel_rfl)
    clear hfr hp
    have hGe:w.drew=w':=hG
    subst hGe
    obtain ⟨v',w2,hrun,hput⟩:=HAP.out 81
    unfold Oper.wp
    simp [execOp,resolve,invoke,builtin,fr_eval,g13,g17,hrun,Result.andThen]
    exact hK _ _ (fun _=>trivial) hput
   ·refine StepPh.reg rfl (by decide) (fun d hd=>by cases hd;decide) ?_
    intro f w' p hG hup hdn hfr hp K hK
    have g8:f 8 = .pointer (some ⟨e.blk,0,none⟩):=hp 0 _ 8 rfl rfl (by kernel_rfl)
    clear hfr hp hup hdn
    go_simp
    exact hK _ _ rfl hG
   ·refine StepPh.reg rfl (by decide) (fun d hd=>by cases hd;decide) ?_
    intro f w' p hG hup hdn hfr hp K hK
    have g19:f 19 = .pointer (some ⟨e.blk,0,none⟩):=hp 11 _ 19 rfl rfl (by kernel_rfl)
    clear hfr hp hup hdn
    go_simp
    exact hK _ _ rfl hG
   ·refine StepPh.wr 1 rfl (by decide) rfl (fun d hd=>by cases hd) (fun j hj=>by (obtain rfl:j=0:=(by omega));kernel_rfl) ?_
    intro f w' hG hfr hp K hK
    have g20:f 20 = .pointer (some ⟨e.blk,1,none⟩):=hp 12 _ 20 rfl rfl (by kernel_rfl)
    clear hfr hp
    have hG1:PutW w.drew e.vb e.f.image (f 18) w':=hG
    obtain ⟨p',c',g18⟩:=hG1.1.slice
    rw [g18] at hG1
    have hcell:=hG1.cell H.out.drew
    have hfz:=hG1.free H.out.drew
    go_simp
    exact hK undef _ (fun h=>by cases h) ⟨w',_,hG1,by simp⟩
  ·intro f w1 hG hfr hR
   refine hc _ _ ?_
   clear hR
   obtain ⟨wp,v',hP,rfl⟩:=hG
   have hF:=ent_set_bytes H.out.drew hP.2.1 hP.1 (own_form hP.2.2)
   have q0:f 0 = .pointer (some ⟨e.blk,0,none⟩):=hfr 0 (by kernel_rfl)
   rw [show Fr 24 f=⟨#[f 0,f 1,f 2,f 3,f 4,f 5,f 6,f 7,f 8,f 9,f 10,f 11,f 12,f 13,f 14,f 15,f 16,f 17,f 18,f 19,f 20,f 21,f 22,f 23],[]⟩ from rfl]
   simp only [q0]
   clear q0 hfr hP
   obtain ⟨e1,he1⟩:∃ e1:Ent,e1 = { e with vb:=v',f:={ e.f with bytes:=e.f.image }}:=⟨_,rfl⟩
   rw [←he1] at hF
   generalize wp.setCell ⟨e.blk,1,none⟩ v'=W1 at *
   have hE1:=hF.at_
   obtain ⟨_,_,d2,dz⟩:=hE1.cells
   have hb1:e1.blk=e.blk:=hF.blk
   rw [hb1] at d2 dz
   have z2:=dz 2
   have HF:=Lib.hid hF
   have HB1:=Lib.hid hb1
   have HE1:=Lib.hid he1
   clear dz hE1 hF hb1 he1
   go_wp2_with fail
   go_end0
   have hs:=ent_set_writes (w1:=W1) (v':=.slice none 0 0) (ys:=[]) HF.out.at_ (grownBy_refl _ _) (World.ownsRow_nil _ _ _ _) (fun g hg=>by cases hg)
   rw [HB1.out] at hs
   refine ⟨rfl,_,?_,((Ent.To.new H.out (Chg.refl _ _).drew).trans HF.out).trans hs⟩
   simp only
   rw [HE1.out]
   simp only [loseF]
   rw [if_neg (by intro e0;have:=HM.out;rw [e0] at this;cases this)]
end Go.Proofs.YtnemlgfldfedpaaGreatDoor
