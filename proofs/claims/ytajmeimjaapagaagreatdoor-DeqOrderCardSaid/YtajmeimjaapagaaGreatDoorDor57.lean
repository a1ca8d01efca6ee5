/- A part. -/
import Derived.Test.YtajmeimjaapagaaGreatDoorDor3
import Derived.Test.YtajmeimjaapagaaGreatDoorDor56
set_option linter.unusedVariables false
set_option linter.unusedSimpArgs false
namespace Go.Proofs.YtajmeimjaapagaaGreatDoor
open Go.RowKit Go.Deep
def OwnI (w:World) (base:Nat) (v:Value) (ids:List Int):Prop:=
 (v = .slice none 0 0∧ids=[])∨∃ g o cap,v = .slice (some ⟨g,o,none⟩) ids.length cap∧base≤g∧g<w.heap.size∧ids.length≤cap∧cap≤maxLen∧(∀ j,j<ids.length→w.cell? ⟨g,o+j,none⟩=some (.int .i64 (ids.getD j 0))) ∧
  ∀ j,j<cap→(w.cell? ⟨g,o+j,none⟩).isSome=true∧w.frozen? ⟨g,o+j,none⟩=false
theorem ownI_nil (w:World) (base:Nat):OwnI w base (.slice none 0 0) []:=.inl ⟨rfl,rfl⟩
theorem OwnI.lt {w:World} {base:Nat} {v:Value} {ids:List Int} (h:OwnI w base v ids):∀ k,v.ownBlock=some k→base≤k∧k<w.heap.size:=by
 intro k hk
 rcases h with ⟨rfl,_⟩|⟨g,o,cap,rfl,hb,hg,_⟩
 ·simp [Value.ownBlock] at hk
 ·simp [Value.ownBlock] at hk
  subst hk
  exact ⟨hb,hg⟩
theorem OwnI.chg {S:Nat→Prop} {w w':World} {base:Nat} {v:Value} {ids:List Int} (h:OwnI w base v ids) (hc:Chg S w w') (hn:∀ g,v.ownBlock=some g→¬ S g):OwnI w' base v ids:=by
 rcases h with h|⟨g,o,cap,rfl,hb,hg,h1,h2,h3,h4⟩
 ·exact .inl h
 ·have hblk:=hc.block g hg (hn g rfl)
  have e1:∀ j,w'.cell? ⟨g,o+j,none⟩=w.cell? ⟨g,o+j,none⟩:=fun j=>World.cell?_of_block hblk
  have e2:∀ j,w'.frozen? ⟨g,o+j,none⟩=w.frozen? ⟨g,o+j,none⟩:=fun j=>World.frozen?_of_block hblk
  exact .inr ⟨g,o,cap,rfl,hb,Nat.lt_of_lt_of_le hg hc.size,h1,h2,fun j hj=>(e1 j).trans (h3 j hj),fun j hj=>by rw [e1,e2];exact h4 j hj⟩
theorem OwnI.alloc {w:World} {base:Nat} {v:Value} {ids:List Int} (h:OwnI w base v ids) (o:Obj):OwnI (w.alloc o) base v ids:=h.chg (Chg.alloc (fun _=>False) (Chg.refl _ _) o) (fun _ _ x=>x)
theorem OwnI.slice {w:World} {base:Nat} {v:Value} {ids:List Int} (h:OwnI w base v ids):∃ p c,v = .slice p ids.length c:=by
 rcases h with ⟨e,h0⟩|⟨g,o,cap,e,_⟩
 ·exact ⟨none,0,by rw [e,h0];rfl⟩
 ·exact ⟨_,_,e⟩
theorem OwnI.drop {w:World} {base:Nat} {ids:List Int} {g o cap:Nat} (h:OwnI w base (.slice (some ⟨g,o,none⟩) ids.length cap) ids) (i:Nat) (hi:i≤ids.length):OwnI w base (.slice (some ⟨g,o+i,none⟩) (ids.length - i) (cap - i)) (ids.drop i):=by
 rcases h with ⟨e,_⟩|⟨g',o',cap',e,hb,hg,h1,h2,h3,h4⟩
 ·cases e
 ·cases e
  refine .inr ⟨g,o+i,cap - i,by rw [List.length_drop],hb,hg,by rw [List.length_drop];omega,by omega,fun j hj=>?_,fun j hj=>?_⟩
  ·rw [List.length_drop] at hj
   rw [Nat.add_assoc,h3 (i+j) (by omega)]
   simp [List.getD_eq_getElem?_getD,List.getElem?_drop]
  ·rw [Nat.add_assoc]
   exact h4 (i+j) (by omega)
theorem ownI_new (w:World) (base:Nat) (arr:Array Value) (ids:List Int) (cap:Nat) (hb:base≤w.heap.size) (hc:ids.length≤cap) (hm:cap≤maxLen) (hs:arr.size=cap) (ha:∀ j,j<ids.length→arr[j]? = some (.int .i64 (ids.getD j 0))) :
 OwnI (w.alloc (.cells arr 3)) base (.slice (some ⟨w.heap.size,0,none⟩) ids.length cap) ids:=by
 have e1:∀ j,(w.alloc (.cells arr 3)).cell? ⟨w.heap.size,0+j,none⟩=arr[j]?:=fun j=>by rw [Nat.zero_add];exact World.cell?_alloc_new w _ _ j
 have e2:∀ j,(w.alloc (.cells arr 3)).frozen? ⟨w.heap.size,0+j,none⟩=false:=fun j=>by rw [Nat.zero_add];exact World.frozen?_alloc_new w _ _ j
 refine .inr ⟨w.heap.size,0,cap,rfl,hb,by rw [World.size_alloc];omega,hc,hm,fun j hj=>by rw [e1];exact ha j hj,fun j hj=>⟨?_,e2 j⟩⟩
 rw [e1,Array.getElem?_eq_getElem (by omega)]
 rfl
theorem info_num:(Tryz.prog.info? 3).map (fun i=>(i.zero,i.size,i.bytes))=some (some (.int .i64 0),1,8):=by kernel_rfl
theorem append_I {w:World} {base:Nat} {v:Value} {ids:List Int} (hown:OwnI w base v ids) (g c:Nat) (k:Int) (hk:w.cell? ⟨g,0,none⟩=some (.int .i64 k)) (hn:ids.length≤1000000) (hb:base≤w.heap.size) (ty:TypeId) :
 ∃ v' w',(Builtin.append_ #[52,52] ty #[v,.slice (some ⟨g,0,none⟩) 1 c]).run Tryz.prog w = .ok v' w'∧OwnI w' base v' (ids ++ [k])∧w.grownBy w' v.ownBlock∧(v'.ownBlock=v.ownBlock∨v'.ownBlock=some w.heap.size):=by
 obtain ⟨i0,hi,hz0,hz1,hz2⟩:=info_parts info_num
 have hnews:∀ j u,[Value.int .i64 k][j]? = some u→w.cell? ((⟨g,0,none⟩:Addr).add j)=some u:=fun j u hu=>by
  match j with
  | 0=>simp at hu;subst hu;simpa [Addr.add] using hk
  | j+1=>simp at hu
 have h1:∀ u∈[Value.int .i64 k],u.oneCell'=true:=fun u hu=>by simp at hu;subst hu;rfl
 have hlen:(ids ++ [k]).length=ids.length+1:=by simp
 have hnew:∀ old,OwnI (w.drew.alloc (.cells ((ids.map (Value.int .i64) ++ [Value.int .i64 k]).toArray ++ Builtin.zeroCells (Value.int .i64 0).cells (grownCap w (ids.length+1) old 3 - (ids.length+1))) 3)) base (.slice (some ⟨w.heap.size,0,none⟩) (ids.length+1) (grownCap w (ids.length+1) old 3)) (ids ++ [k]):=fun old=>by
  have hge:=grownCap_ge w (ids.length+1) old 3
  have hcm:=grownCap_le_maxLen w (ids.length+1) old 3 (by unfold maxLen;omega)
  rw [←hlen] at hge hcm ⊢
  refine ownI_new w.drew base _ (ids ++ [k]) _ hb hge hcm ?_ (fun j hj=>?_)
  ·simp only [Array.size_append,List.size_toArray,size_zeroCells,List.length_append,List.length_map,List.length_singleton]
   rw [show (Value.int .i64 0).cells.size=1 from rfl]
   simp only [List.length_append,List.length_singleton] at hge
   omega
  ·rw [show ids.map (Value.int .i64) ++ [Value.int .i64 k]=(ids ++ [k]).map (Value.int .i64) from by simp]
   rw [Array.getElem?_append_left (by simpa using hj),List.getElem?_toArray,List.getElem?_map,List.getElem?_eq_getElem hj,List.getD_eq_getElem?_getD,List.getElem?_eq_getElem hj]
   rfl
 have hgr:∀ (arr:Array Value) (row:Option Nat),w.grownBy (w.drew.alloc (.cells arr 3)) row:=fun arr row=>⟨rfl,rfl,rfl,by simp,fun k hk _=>Below.heap_alloc w.drew _ k hk⟩
 rcases hown with ⟨rfl,rfl⟩|⟨g0,o,cap,rfl,hbg,hg,hl,hm,hcell,hfree⟩
 ·have hr:=run_append_nil (P:=Tryz.prog) w 52 ty 3 i0 _ Tryz.underlying52 hi hz0 ⟨g,0,none⟩ 1 c [.int .i64 k] (by rw [hz1];rfl) hnews (by omega) (by omega) (by rw [hz2];omega)
  exact ⟨_,_,hr,hnew 0,hgr _ _,.inr rfl⟩
 ·have hsrc:∀ s,s=1→Src Tryz.prog s 52 (.slice (some ⟨g,0,none⟩) 1 c) 1 [.int .i64 k] w:=fun s hs=>by subst hs;exact Src.ofSlice w Tryz.underlying52 ⟨g,0,none⟩ 1 c _ rfl hnews h1
  by_cases hroom:ids.length+1≤cap
  ·have hr:=run_append_room_src (P:=Tryz.prog) (w:=w) 52 52 ty 3 i0 Tryz.underlying52 hi g0 o ids.length cap _ 1 _ (hsrc _ hz1) hroom
    (fun j hj=>by rw [hz1,Nat.mul_one,Nat.add_assoc];exact (hfree _ (by simp at hj;omega)).1) (fun j hj=>by rw [hz1,Nat.mul_one,Nat.add_assoc];exact (hfree _ (by simp at hj;omega)).2)
   rw [hz1,Nat.mul_one] at hr
   have hin:=World.cell?_setCells_in g0 [.int .i64 k] (o+ids.length) w (fun j hj=>by rw [Nat.add_assoc];exact (hfree _ (by simp at hj;omega)).1) 0 (by simp)
   have hout:∀ j,j≠ids.length→(w.setCells g0 (o+ids.length) [.int .i64 k]).cell? ⟨g0,o+j,none⟩=w.cell? ⟨g0,o+j,none⟩:=fun j hj=>World.cell?_setCells_out g0 _ _ w _ (fun _ _=>by show o+j<_∨_;simp;omega)
   have hfz:∀ x,(w.setCells g0 (o+ids.length) [.int .i64 k]).frozen? x=w.frozen? x:=fun x=>World.frozen?_setCells g0 _ _ w x
   have hch:Chg (fun q=>q=g0) w (w.setCells g0 (o+ids.length) [.int .i64 k]):=Chg.setCell (S:=fun q=>q=g0) (p:=⟨g0,o+ids.length,none⟩) (Chg.refl _ _) (fun _=>rfl) _
   refine ⟨_,_,hr,.inr ⟨g0,o,cap,by rw [hlen],hbg,Nat.lt_of_lt_of_le hg hch.size,by omega,hm,fun j hj=>?_,fun j hj=>?_⟩,hch.grown (row:=some g0) (fun q _ e=>by rw [e]),.inl rfl⟩
   ·by_cases he:j=ids.length
    ·subst he
     rw [Nat.add_zero] at hin
     rw [hin]
     simp [List.getD_eq_getElem?_getD]
    ·rw [hout j he,hcell j (by omega)]
     simp [List.getD_eq_getElem?_getD,List.getElem?_append_left (show j<ids.length by omega)]
   ·rw [hfz]
    refine ⟨?_,(hfree j hj).2⟩
    by_cases he:j=ids.length
    ·subst he
     rw [Nat.add_zero] at hin
     rw [hin]
     rfl
    ·rw [hout j he]
     exact (hfree j hj).1
  ·have hold:=run_firstCells_some (P:=Tryz.prog) w.drew 1 ids.length ⟨g0,o,none⟩ ids.length cap (ids.map (Value.int .i64)) (by simp) (fun j u hu=>by
    rw [List.getElem?_map] at hu
    by_cases hj:j<ids.length
    ·rw [List.getElem?_eq_getElem hj] at hu
     have e:=hcell j hj
     rw [List.getD_eq_getElem?_getD,List.getElem?_eq_getElem hj] at e
     rw [add_none]
     exact e.trans hu
    ·rw [List.getElem?_eq_none (by omega)] at hu
     cases hu)
   rw [←hz1] at hold
   have hr:=run_append_grow_src (P:=Tryz.prog) (w:=w) 52 52 ty 3 i0 _ Tryz.underlying52 hi hz0 (some ⟨g0,o,none⟩) ids.length cap (ids.map (Value.int .i64)) hold _ 1 _ (hsrc _ hz1) (by omega) (by omega) (growslice_fits (by omega) (by rw [hz2];omega))
   exact ⟨_,_,hr,hnew cap,hgr _ _,.inr rfl⟩
noncomputable abbrev tK:KeyK Tryz.prog 3 Int:=intKey Tryz.underlying3
theorem tzero (w:World):(zeroValue 3).run Tryz.prog w = .ok (intEl.ev 0) w:=by kernel_rfl
structure TapeM where
 rb:Nat
 cb:Nat
 mb:Nat
 v:Value
 ids:List Int
 last:Int
 M:List (Int×Int)
def TapeM.cells (t:TapeM) (d:Nat):Array Value:=#[.pointer (some ⟨t.rb,0,none⟩),.pointer (some ⟨d,0,none⟩),.pointer (some ⟨t.cb,0,none⟩),.map (some t.mb),t.v,.int .i64 t.last]
def TapeM.foot (t:TapeM) (tb:Nat):List Nat:=tb :: t.cb :: t.mb :: t.v.ownBlock.toList
structure TapeAt (w0 w:World) (tb d:Nat) (t:TapeM):Prop where
 at_:w.heap[tb]? = some (.cells (t.cells d) 105 (0,0))
 tab:Cr.Tab w t.cb
 map:MapK tK intEl w t.mb t.M
 own:OwnI w w0.heap.size t.v t.ids
 apart:(t.foot tb).Nodup
 low:∀ q∈t.foot tb,w0.heap.size≤q
theorem mem_foot_tb (t:TapeM) (tb:Nat):tb∈t.foot tb:=List.mem_cons_self ..
theorem mem_foot_cb (t:TapeM) (tb:Nat):t.cb∈t.foot tb:=by simp [TapeM.foot]
theorem mem_foot_mb (t:TapeM) (tb:Nat):t.mb∈t.foot tb:=by simp [TapeM.foot]
theorem mem_foot_v (t:TapeM) (tb:Nat) {q:Nat} (h:t.v.ownBlock=some q):q∈t.foot tb:=by simp [TapeM.foot,h]
theorem TapeAt.lt {w0 w:World} {tb d:Nat} {t:TapeM} (h:TapeAt w0 w tb d t):∀ q∈t.foot tb,q<w.heap.size:=fun q hq=>by
 simp only [TapeM.foot,List.mem_cons,Option.mem_toList] at hq
 rcases hq with rfl|rfl|rfl|hq
 ·exact (Array.getElem?_eq_some_iff.1 h.at_).1
 ·exact h.tab.lt
 ·exact h.map.lt
 ·exact (h.own.lt q hq).2
theorem TapeAt.chg {w0 w w':World} {S:Nat→Prop} {tb d:Nat} {t:TapeM} (h:TapeAt w0 w tb d t) (hc:Chg S w w') (hn:∀ q∈t.foot tb,¬ S q):TapeAt w0 w' tb d t:=
 ⟨hc.heap h.at_ (hn _ (mem_foot_tb t tb)),World.rowIs.of_block h.tab (hc.block _ h.tab.lt (hn _ (mem_foot_cb t tb))),h.map.heap (hc.block _ h.map.lt (hn _ (mem_foot_mb t tb))),h.own.chg hc (fun q hq=>hn q (mem_foot_v t tb hq)),h.apart,h.low⟩
theorem TapeAt.new {w0 w w':World} {tb d:Nat} {t:TapeM} (h:TapeAt w0 w tb d t) (hc:Chg (fun _=>False) w w'):TapeAt w0 w' tb d t:=h.chg hc (fun _ _ x=>x)
theorem TapeAt.cell {w0 w:World} {tb d:Nat} {t:TapeM} (h:TapeAt w0 w tb d t):w.cell? ⟨tb,0,none⟩=some (.pointer (some ⟨t.rb,0,none⟩))∧w.cell? ⟨tb,1,none⟩=some (.pointer (some ⟨d,0,none⟩))∧w.cell? ⟨tb,2,none⟩=some (.pointer (some ⟨t.cb,0,none⟩)) ∧
 w.cell? ⟨tb,3,none⟩=some (.map (some t.mb))∧w.cell? ⟨tb,4,none⟩=some t.v∧w.cell? ⟨tb,5,none⟩=some (.int .i64 t.last)∧∀ i,w.frozen? ⟨tb,i,none⟩=false:=by
 have h0:=h.at_
 unfold TapeM.cells at h0
 refine ⟨?_,?_,?_,?_,?_,?_,fun i=>?_⟩<;>simp [World.cell?,World.frozen?,h0]
structure TapeG (w0 w:World) (tb:Nat) (t:TapeM) (g:Gh) (st:St) (m:RowM):Prop where
 row:RowG w0 w t.rb g st m
 tape:TapeAt w0 w tb g.d t
 out:∀ q∈t.foot tb,q≠t.rb∧q∉g.fp
theorem TapeG.new {w0 w w':World} {tb:Nat} {t:TapeM} {g:Gh} {st:St} {m:RowM} (h:TapeG w0 w tb t g st m) (hc:Chg (fun _=>False) w w'):TapeG w0 w' tb t g st m:=⟨h.row.new hc,h.tape.new hc,h.out⟩
theorem TapeG.step {w0 w w':World} {tb:Nat} {t:TapeM} {g g':Gh} {st st':St} {m m':RowM} (h:TapeG w0 w tb t g st m) (hr:RowG w0 w' t.rb g' st' m') (ht:RowTo w t.rb g g' w'):TapeG w0 w' tb t g' st' m':=by
 refine ⟨hr,?_,fun q hq=>⟨(h.out q hq).1,fun hx=>?_⟩⟩
 ·rw [ht.d]
  exact h.tape.chg ht.chg (fun q hq hx=>hx.elim (h.out q hq).1 (h.out q hq).2)
 ·rcases ht.fp q hx with a|a
  ·exact (h.out q hq).2 a
  ·have:=h.tape.lt q hq
   omega
theorem TapeG.chg {w0 w:World} {tb:Nat} {t:TapeM} {g:Gh} {st:St} {m:RowM} (h:TapeG w0 w tb t g st m):Chg (fun _=>False) w0 w:=h.row.chg
theorem trow_any {w0 w:World} {tb d:Nat} {t:TapeM} (h:TapeAt w0 w tb d t):Calls Tryz.prog 41 #[.pointer (some ⟨tb,0,none⟩)] w fun e w'=>e = .returned (.pointer (some ⟨t.rb,0,none⟩))∧w=w':=by
 obtain ⟨c0,c1,c2,c3,c4,c5,z⟩:=h.cell
 clear z h
 go_enter Tryz.func41,Tryz.ntmps41
 go_wp2_with fail
 go_ret
 exact ⟨rfl,rfl⟩
theorem tbegin_any {w0 w:World} {tb:Nat} {t:TapeM} {g:Gh} {st:St} {m:RowM} (h:TapeG w0 w tb t g st m):Calls Tryz.prog 49 #[.pointer (some ⟨tb,0,none⟩)] w fun e w'=>e = .returned (.int .i64 m.begin_)∧w=w':=by
 have HR:=Lib.hid (trow_any h.tape)
 have HB:=Lib.hid (rbegin_any t.rb g.d m w h.row.row)
 clear h
 go_enter Tryz.func49,Tryz.ntmps49
 go_wp2_with fail
 refine HR.out.mono ?_
 rintro e w1 ⟨rfl,rfl⟩
 go_wp2_with fail
 refine HB.out.mono ?_
 rintro e w1 ⟨rfl,rfl⟩
 go_wp2_with fail
 go_ret
 exact ⟨rfl,rfl⟩
theorem tend_any {w0 w:World} {tb:Nat} {t:TapeM} {g:Gh} {st:St} {m:RowM} (h:TapeG w0 w tb t g st m):Calls Tryz.prog 16 #[.pointer (some ⟨tb,0,none⟩)] w fun e w'=>e = .returned (.int .i64 m.end_)∧w=w':=by
 have HR:=Lib.hid (trow_any h.tape)
 have HB:=Lib.hid (rend_any t.rb g.d m w h.row.row)
 clear h
 go_enter Tryz.func16,Tryz.ntmps16
 go_wp2_with fail
 refine HR.out.mono ?_
 rintro e w1 ⟨rfl,rfl⟩
 go_wp2_with fail
 refine HB.out.mono ?_
 rintro e w1 ⟨rfl,rfl⟩
 go_wp2_with fail
 go_ret
 exact ⟨rfl,rfl⟩
def TGTo (v:Value) (w0:World) (tb:Nat) (t:TapeM) (d:Nat) (n z i0 j:Nat) (all:List UInt8) (H:ByteArray) (sy:Int) (st:St) (S:Nat→Prop) (w:World) (e:Ending) (w':World):Prop:=e = .returned v∧∃ g' m' st',TapeG w0 w' tb t g' st' m'∧g'.d=d∧m'.head=H∧m'.synced=sy∧RowC n m' st' z i0 j all∧st'.cap=st.cap∧Chg S w w'∧(∀ q∈g'.fp,S q∨w.heap.size≤q)∧Others H st st'
theorem tsync_any {w0 w:World} {tb:Nat} {t:TapeM} {g:Gh} {st:St} {m:RowM} {n z i0 j:Nat} {all:List UInt8} (h:TapeG w0 w tb t g st m) (hk:RowC n m st z i0 j all) (hn:n≤1048576) :
 Calls Tryz.prog 66 #[.pointer (some ⟨tb,0,none⟩)] w (TGTo (.int .i64 0) w0 tb t g.d n z i0 j all m.head ((z*i0+all.length:Nat):Int) st (fun q=>q=t.rb∨q∈g.fp) w):=by
 have HR:=Lib.hid (trow_any h.tape)
 have HB:=Lib.hid (c_sync h.row hk hn)
 have HG:=Lib.hid h
 clear h hk
 go_enter Tryz.func66,Tryz.ntmps66
 go_wp2_with fail
 refine HR.out.mono ?_
 rintro e w1 ⟨rfl,rfl⟩
 go_wp2_with fail
 refine HB.out.mono ?_
 rintro e w1 ⟨rfl,g',m',st',hg',hto,hoth,hh,hs,hk',hcp⟩
 have HT:=Lib.hid (HG.out.step hg' hto)
 have HD:=Lib.hid hto.d
 have HK:=Lib.hid hk'
 have HH:=Lib.hid (And.intro hh hs)
 have HCG:=Lib.hid (And.intro hcp hto)
 have HOT:=Lib.hid hoth
 clear hg' hto hh hs hk' hcp hoth
 go_wp2_with fail
 go_ret
 exact ⟨rfl,g',m',st',HT.out,HD.out,HH.out.1,HH.out.2,HK.out,HCG.out.1,HCG.out.2.chg,fun q hq=>(HCG.out.2.fp q hq).imp .inr (fun x=>x),HOT.out⟩
theorem tsize_any {w0 w:World} {tb d:Nat} {t:TapeM} (h:TapeAt w0 w tb d t) (a:Int) (ha:(Lit.int .i64 a).wf=true):Calls Tryz.prog 50 #[.pointer (some ⟨tb,0,none⟩),.int .i64 a] w fun e w'=>e = .returned (.int .i64 ((getK t.M a).getD 0))∧w=w':=by
 obtain ⟨c0,c1,c2,c3,c4,c5,z⟩:=h.cell
 have hlk:=h.map.look (t:=103) (e:=3) Tryz.underlying103 (z:=0) (tzero w) a ha false
 obtain ⟨v,hv⟩:∃ v,v=(getK t.M a).getD 0:=⟨_,rfl⟩
 rw [←hv] at hlk ⊢
 have hlk:(Instr.lookup 103 (.map (some t.mb)) (.int .i64 a) false).run Tryz.prog w = .ok (.int .i64 v) w:=hlk
 clear z h hv ha
 go_enter Tryz.func50,Tryz.ntmps50
 go_wp2_with fail
 go_ret
 exact ⟨rfl,rfl⟩
theorem mayLeave_any (n:Int) (w:World):Calls Tryz.prog 115 #[.int .i64 n] w fun e w'=>e = .returned (.bool (n == 0 || decide (3≤n)))∧w=w':=by
 by_cases h0:n=0
 ·subst h0
  go_enter Tryz.func115,Tryz.ntmps115
  go_wp2_with fail
  go_ret
  exact ⟨rfl,rfl⟩
 ·have hb:(n == 0)=false:=by simpa using h0
  rw [hb,Bool.false_or]
  clear h0
  go_enter Tryz.func115,Tryz.ntmps115
  go_wp2_with fail
  go_ret
  exact ⟨rfl,rfl⟩
section
variable {w:World} {ops:Array Oper} {rest:List Oper} {o:Oper} {a:Act} {Q:Exit→Act→World→Prop}
theorem wpList_store_tt (hg:o.guard=none) (m x v:Operand) (hop:o.op=Op.mapUpdate 103 m x v) (mm:Nat) (M:List (Int×Int)) (p l:Int)
 (hm:a.eval m = .map (some mm)) (hx:a.eval x = .int .i64 p) (hv:a.eval v = .int .i64 l) (h:MapK tK intEl w mm M) (hp:(Lit.int .i64 p).wf=true) (hn:M.length<maxLen)
 (hK:∀ w',MapK tK intEl w' mm (dropK M p ++ [(p,l)])→w.grownBy w' (some mm)→w'.heap.size=w.heap.size→wpList Tryz.prog ops Q rest (a.put o.dst undef) w'):wpList Tryz.prog ops Q (o :: rest) a w:=by
 refine wpList_plain hg fun K' hK'=>?_
 obtain ⟨w',hrun,r1,r2,r3⟩:=h.store (t:=103) (e:=3) Tryz.underlying103 p hp l hn
 have hrun:(Instr.mapUpdate 103 (.map (some mm)) (.int .i64 p) (.int .i64 l)).run Tryz.prog w = .ok () w':=hrun
 unfold Oper.wp
 simp [execOp,hop,hm,hx,hv,hrun,Result.andThen]
 exact hK' _ _ (hK w' r1 r2 r3)
theorem wpList_append_num (hg:o.guard=none) (s x:Operand) (ho:o.op = .call { callee:=.builtin .append,args:=#[s,x],argTypes:=#[52,52]})
 (base:Nat) (v:Value) (ids:List Int) (hs:a.eval s=v) (hown:OwnI w base v ids) (g c:Nat) (k:Int) (hx:a.eval x = .slice (some ⟨g,0,none⟩) 1 c)
 (hk:w.cell? ⟨g,0,none⟩=some (.int .i64 k)) (hn:ids.length≤1000000) (hb:base≤w.heap.size)
 (h:∀ v' w',OwnI w' base v' (ids ++ [k])→w.grownBy w' v.ownBlock→(v'.ownBlock=v.ownBlock∨v'.ownBlock=some w.heap.size)→wpList Tryz.prog ops Q rest (a.put o.dst v') w'):wpList Tryz.prog ops Q (o :: rest) a w:=by
 obtain ⟨v',w',hr,h2,h3,h4⟩:=append_I hown g c k hk hn hb o.type
 refine wpList_plain hg fun K' hK'=>?_
 unfold Oper.wp execOp
 simp only [ho,resolve,invoke,builtin,Sem.run_bind,Sem.run_pure,Result.andThen_ok,List.map_toArray,List.map_cons,List.map_nil,hs,hx,hr]
 exact hK' _ _ (h v' w' h2 h3 h4)
end
def TapeM.noted (t:TapeM) (v:Value) (id size born:Int):TapeM:={ t with v:=v,ids:=t.ids ++ [id],last:=born,M:=dropK t.M id ++ [(id,size)]}
def NoteTo (w0 w:World) (tb d:Nat) (t:TapeM) (id size born:Int) (e:Ending) (w':World):Prop:=
 e = .returned (.tuple #[])∧∃ v',TapeAt w0 w' tb d (t.noted v' id size born)∧Chg (fun q=>q∈t.foot tb) w w'∧∀ q∈(t.noted v' id size born).foot tb,q∈t.foot tb∨w.heap.size≤q
set_option maxHeartbeats 1000000 in
set_option maxRecDepth 100000 in
theorem tnote_any {w0 w:World} {tb d:Nat} {t:TapeM} (h:TapeAt w0 w tb d t) (hw:w0.heap.size≤w.heap.size) (id size:Int) (m:MsgM) (vk:Value) (hid:(Lit.int .i64 id).wf=true) (hml:t.M.length≤1000000) (hil:t.ids.length≤1000000) :
 Calls Tryz.prog 73 #[.pointer (some ⟨tb,0,none⟩),.int .i64 id,.int .i64 size,m.val vk] w (NoteTo w0 w tb d t id size m.born):=by
 obtain ⟨W1,hW1⟩:∃ W,W=w.alloc (.cells (m.cells vk) 36):=⟨_,rfl⟩
 have hc1:Chg (fun _=>False) w W1:=hW1▸Chg.alloc _ (Chg.refl _ _) _
 have hs1:W1.heap.size=w.heap.size+1:=by rw [hW1,World.size_alloc]
 have hk1:W1.cell? ⟨w.heap.size,5,none⟩=some (.int .i64 m.born):=by rw [hW1];simp [MsgM.cells]
 have h1:=h.new hc1
 have HF:=Lib.hid (fun q hq=>h.lt q hq)
 have HC1:=Lib.hid hc1
 have HS1:=Lib.hid hs1
 have HK1:=Lib.hid hk1
 have H1:=Lib.hid h1
 have HW1:=Lib.hid hW1
 have HW:=Lib.hid hw
 have HM:=Lib.hid (show t.M.length<maxLen by unfold maxLen;omega)
 have HIL:=Lib.hid hil
 have HIV:=Lib.hid hid
 obtain ⟨c0,c1,c2,c3,c4,c5,z⟩:=h1.cell
 have htbm:¬ tb=t.mb:=fun e=>by have:=h.apart;simp [TapeM.foot,e] at this
 have htv:∀ g,t.v.ownBlock=some g→¬ g=tb∧¬ g=t.mb∧¬ g=t.cb:=fun g hg=>by
  have:=h.apart
  simp only [TapeM.foot,hg,Option.toList,List.nodup_cons,List.mem_cons,List.mem_singleton,not_or] at this
  exact ⟨fun e=>this.1.2.2.1 e.symm,fun e=>this.2.2.1.1 e.symm,fun e=>this.2.1.2.1 e.symm⟩
 have HTBM:=Lib.hid htbm
 have HTV:=Lib.hid htv
 clear h hc1 hs1 hk1 h1 hW1 hw hml hil hid c0 c1 c2 c4 c5 htbm htv
 unfold MsgM.val
 unfold MsgM.cells at HW1 ⊢
 go_enter Tryz.func73,Tryz.ntmps73
 go_upto_region 1 with fail
 rw [←HW1.out]
 go_wp2_with (with_reducible refine wpList_store_tt rfl (.tmp 11) (.tmp 12) (.tmp 13) rfl t.mb t.M id size rfl rfl rfl ?c1 HIV.out HM.out ?c2)
 case c1=>exact H1.out.map
 case c2=>
  intro w2 hm2 hg2 hs2
  have hmbf:=mem_foot_mb t tb
  have htbf:=mem_foot_tb t tb
  have hc12:Chg (fun q=>q=t.mb) W1 w2:=Chg.of_grown hg2 (fun k hk _=>(Option.some.inj hk).symm)
  have hc2:Chg (fun q=>q∈t.foot tb) w w2:=(HC1.out.wide (S':=fun q=>q∈t.foot tb) (fun _ _ x=>x.elim)).trans (hc12.wide (S':=fun q=>q∈t.foot tb) (fun i _ e=>e▸hmbf)) (fun i _ x=>x)
  have ha2:w2.heap[tb]? = some (.cells (t.cells d) 105 (0,0)):=hc12.heap H1.out.at_ HTBM.out
  have hb2:¬ w.heap.size=t.mb:=fun e=>by have:=HF.out _ hmbf;omega
  have hk2:w2.cell? ⟨w.heap.size,5,none⟩=some (.int .i64 m.born):=hc12.cell HK1.out hb2
  have ho2:OwnI w2 w0.heap.size t.v t.ids:=H1.out.own.chg hc12 (fun g hg=>(HTV.out g hg).2.1)
  have hf2:Cr.Tab w2 t.cb:=World.rowIs.of_block H1.out.tab (hc12.block _ H1.out.tab.lt (fun e=>by have:=H1.out.apart;simp [TapeM.foot,e] at this))
  have hz2:w0.heap.size≤(w2.alloc (.cells #[.int .i64 id] 3)).heap.size:=by have:=HW.out;have:=HS1.out;rw [World.size_alloc];omega
  have hs2':w2.heap.size=w.heap.size+1:=by rw [hs2,HS1.out]
  have HC2:=Lib.hid hc2
  have HA2:=Lib.hid ha2
  have HK2:=Lib.hid hk2
  have HO2:=Lib.hid ho2
  have HF2:=Lib.hid hf2
  have HM2:=Lib.hid hm2
  have HZ2:=Lib.hid hz2
  have HS2:=Lib.hid hs2'
  have d4:w2.cell? ⟨tb,4,none⟩=some t.v:=by simp [World.cell?,ha2,TapeM.cells]
  clear c3 z hmbf htbf hc12 hc2 ha2 hb2 hk2 ho2 hf2 hm2 hz2 hs2 hs2' hg2
  go_wp2_with (at_builtin;with_reducible refine wpList_append_num rfl (.tmp 18) (.tmp 20) rfl w0.heap.size t.v t.ids rfl ?c3 w2.heap.size 1 id rfl ?c4 HIL.out HZ2.out ?c5)
  case c3=>exact HO2.out.alloc _
  case c4=>simp
  case c5=>
   intro v' w3 ho3 hg3 hv3
   obtain ⟨vp,vc,hvs⟩:=ho3.slice
   obtain ⟨vn,hvn⟩:∃ vn,vn=(t.ids ++ [id]).length:=⟨_,rfl⟩
   rw [←hvn] at hvs
   subst hvs
   clear hvn
   have hA:Chg (fun q=>q∈t.v.ownBlock.toList) w2 w3:=(Chg.alloc _ (Chg.refl _ _) _).trans (Chg.of_grown (S:=fun q=>q∈t.v.ownBlock.toList) hg3 (fun k hk _=>by simp [hk])) (fun i _ x=>x)
   have hvf:∀ q∈t.v.ownBlock.toList,q∈t.foot tb∧¬ q=tb∧¬ q=t.mb∧¬ q=t.cb∧q<w.heap.size:=fun q hq=>by
    have hq':t.v.ownBlock=some q:=by simpa using hq
    have h1:=mem_foot_v t tb hq'
    exact ⟨h1,(HTV.out q hq').1,(HTV.out q hq').2.1,(HTV.out q hq').2.2,HF.out q h1⟩
   have hc3:Chg (fun q=>q∈t.foot tb) w w3:=HC2.out.trans hA (fun i _ x=>(hvf i x).1)
   have ha3:w3.heap[tb]? = some (.cells (t.cells d) 105 (0,0)):=hA.heap HA2.out (fun x=>(hvf _ x).2.1 rfl)
   have hk3:w3.cell? ⟨w.heap.size,5,none⟩=some (.int .i64 m.born):=hA.cell HK2.out (fun x=>by have:=(hvf _ x).2.2.2.2;simp at this)
   have hf3:Cr.Tab w3 t.cb:=World.rowIs.of_block HF2.out (hA.block _ HF2.out.lt (fun x=>(hvf _ x).2.2.2.1 rfl))
   have hm3:MapK tK intEl w3 t.mb (dropK t.M id ++ [(id,size)]):=HM2.out.heap (hA.block _ HM2.out.lt (fun x=>(hvf _ x).2.2.1 rfl))
   have hnew:(Value.slice vp vn vc).ownBlock=t.v.ownBlock∨(Value.slice vp vn vc).ownBlock=some (w2.heap.size+1):=by simpa using hv3
   have HC3:=Lib.hid hc3
   have HA3:=Lib.hid ha3
   have HF3:=Lib.hid hf3
   have HM3:=Lib.hid hm3
   have HO3:=Lib.hid ho3
   have HN3:=Lib.hid hnew
   have HK3:=Lib.hid hk3
   have e4:w3.frozen? ⟨tb,4,none⟩=false:=by simp [World.frozen?,ha3]
   have e4':w3.cell? ⟨tb,4,none⟩=some t.v:=by simp [World.cell?,ha3,TapeM.cells]
   clear hA hvf hc3 ha3 hk3 hf3 hm3 hnew ho3 hg3 hv3 d4
   go_upto_region 3 with fail
   obtain ⟨W4,hW4⟩:∃ W,W=w3.setCell ⟨tb,4,none⟩ (.slice vp vn vc):=⟨_,rfl⟩
   rw [←hW4]
   have ha4:W4.heap[tb]? = some (.cells ((t.cells d).setIfInBounds 4 (.slice vp vn vc)) 105 (0,0)):=hW4▸heap_setCell_same w3 tb 4 _ _ (.slice vp vn vc) HA3.out
   have hc4:Chg (fun q=>q=tb) w3 W4:=hW4▸Chg.setCell (S:=fun q=>q=tb) (Chg.refl _ _) (fun _=>rfl) _
   have htl:tb<w.heap.size:=HF.out _ (mem_foot_tb t tb)
   have f5:W4.frozen? ⟨tb,5,none⟩=false:=by simp [World.frozen?,ha4]
   have f5':W4.cell? ⟨tb,5,none⟩=some (.int .i64 t.last):=by simp [World.cell?,ha4,TapeM.cells]
   have hk4:W4.cell? ⟨w.heap.size,5,none⟩=some (.int .i64 m.born):=hc4.cell HK3.out (fun e=>by simp at e;omega)
   have HA4:=Lib.hid ha4
   have HC4:=Lib.hid hc4
   clear ha4 hc4 htl hW4 e4 e4'
   go_wp2_with fail
   refine bodyPost_end (P:=Tryz.prog) (results_none (fn:=Tryz.f73) rfl _ _ _) rfl ?_
   have ha5:=heap_setCell_same W4 tb 5 _ _ (.int .i64 m.born) HA4.out
   have hc5:Chg (fun q=>q=tb) W4 (W4.setCell ⟨tb,5,none⟩ (.int .i64 m.born)):=Chg.setCell (S:=fun q=>q=tb) (Chg.refl _ _) (fun _=>rfl) _
   have hc35:Chg (fun q=>q=tb) w3 (W4.setCell ⟨tb,5,none⟩ (.int .i64 m.born)):=HC4.out.trans hc5 (fun _ _ x=>x)
   have htbf:=mem_foot_tb t tb
   have htl:tb<w.heap.size:=HF.out _ htbf
   have hap:=H1.out.apart
   have hlow:=H1.out.low
   have hv5:∀ q,(Value.slice vp vn vc).ownBlock=some q→q∈t.v.ownBlock.toList∨w.heap.size≤q:=fun q hq=>by
    rcases HN3.out with e|e
    ·left;rw [←e,hq];simp
    ·right
     have:=HS2.out
     rw [e] at hq
     have:=Option.some.inj hq
     omega
   have hvf:∀ q∈t.v.ownBlock.toList,q∈t.foot tb∧¬ q=tb∧¬ q=t.mb∧¬ q=t.cb:=fun q hq=>by
    have hq':t.v.ownBlock=some q:=by simpa using hq
    exact ⟨mem_foot_v t tb hq',(HTV.out q hq').1,(HTV.out q hq').2.1,(HTV.out q hq').2.2⟩
   have hft:∀ q∈(t.noted (.slice vp vn vc) id size m.born).foot tb,q∈t.foot tb∨w.heap.size≤q:=fun q hq=>by
    simp only [TapeM.foot,TapeM.noted,List.mem_cons,Option.mem_toList] at hq
    rcases hq with rfl|rfl|rfl|hq
    ·exact .inl htbf
    ·exact .inl (mem_foot_cb t tb)
    ·exact .inl (mem_foot_mb t tb)
    ·exact (hv5 q hq).imp (fun x=>(hvf q x).1) (fun x=>x)
   refine ⟨rfl,(.slice vp vn vc),⟨?_,?_,?_,?_,?_,?_⟩,?_,hft⟩
   ·simpa [TapeM.cells,TapeM.noted] using ha5
   ·exact World.rowIs.of_block HF3.out (hc35.block _ HF3.out.lt (fun e=>(List.nodup_cons.1 hap).1 (by have e':t.cb=tb:=e;rw [e'];exact List.mem_cons_self ..)))
   ·exact HM3.out.heap (hc35.block _ HM3.out.lt (fun e=>HTBM.out e.symm))
   ·have:=HO3.out.chg hc35 (fun q hq e=>by
     subst e
     rcases hv5 _ hq with x|x
     ·exact (hvf _ x).2.1 rfl
     ·omega)
    simpa [TapeM.noted] using this
   ·have hcl:t.cb<w.heap.size:=HF.out _ (mem_foot_cb t tb)
    have hml:t.mb<w.heap.size:=HF.out _ (mem_foot_mb t tb)
    simp only [TapeM.foot,TapeM.noted,List.nodup_cons,List.mem_cons,not_or,Option.mem_toList] at hap ⊢
    refine ⟨⟨hap.1.1,hap.1.2.1,fun e=>?_⟩,⟨hap.2.1.1,fun e=>?_⟩,fun e=>?_,by cases (Value.slice vp vn vc).ownBlock<;>simp⟩
    ·rcases hv5 _ e with x|x
     ·exact (hvf _ x).2.1 rfl
     ·omega
    ·rcases hv5 _ e with x|x
     ·exact (hvf _ x).2.2.2 rfl
     ·omega
    ·rcases hv5 _ e with x|x
     ·exact (hvf _ x).2.2.1 rfl
     ·omega
   ·intro q hq
    rcases hft q hq with x|x
    ·exact hlow q x
    ·have:=HW.out;omega
   ·exact HC3.out.trans (hc35.wide (S':=fun q=>q∈t.foot tb) (fun i _ e=>e▸htbf)) (fun i _ x=>x)
def tfill (r n:Nat):List UInt8:=if r=n∨n+3≤r then [] else if 3≤r then fillB r else []
structure RoomOk (m:RowM) (r:Nat):Prop where
 h1:0≤m.end_
 h2:m.end_≤m.next
 h3:m.next≤1099511627776
 hr:roomR m=(r:Int)
 hl:r≤1024
theorem RoomOk.call {w0 w:World} {b:Nat} {g:Gh} {st:St} {m:RowM} {r:Nat} (h:RoomOk m r) (hg:RowG w0 w b g st m) :
 Calls Tryz.prog 114 #[.pointer (some ⟨b,0,none⟩)] w fun e w'=>e = .returned (.int .i64 r)∧∃ q,w'=w.drewN q:=by
 have:=rroom_any b g.d m w hg.row h.h1 h.h2 h.h3
 have hr:=h.hr
 unfold roomR at hr
 rwa [hr] at this
set_option maxHeartbeats 2000000 in
set_option maxRecDepth 100000 in
theorem tlaid_fill (tb:Nat) (M:MsgM) (vk:Value) (w:World) (hk0:M.kind=0):Calls Tryz.prog 70 #[.pointer (some ⟨tb,0,none⟩),M.val vk] w (Adds (.tuple #[.string ⟨#[]⟩,.string ⟨#[]⟩,.int .i64 1]) w):=by
 obtain ⟨kind,queue,due,retry,ref,born,topic,tag,body,keys⟩:=M
 simp only at hk0
 subst hk0
 unfold MsgM.val MsgM.cells
 simp only
 go_enter Tryz.func70,Tryz.ntmps70
 go_wp2_with fail
 go_ret3
 exact ⟨rfl,(Below.refl _ _).alloc (Nat.le_refl _) _⟩
set_option maxHeartbeats 2000000 in
set_option maxRecDepth 100000 in
theorem tlaid_any {w0 w:World} {tb:Nat} {t:TapeM} {g:Gh} {st:St} {m:RowM} {r:Nat} (h:TapeG w0 w tb t g st m) (hr:RoomOk m r) (M:MsgM) (vk:Value) (hk0:M.kind≠0) (hks:Strs w 0 vk M.keys) (hcap:CapOk vk) (hs:Sound M) :
 Calls Tryz.prog 70 #[.pointer (some ⟨tb,0,none⟩),M.val vk] w (Adds (match putO M with
  | none=>.tuple #[.string ⟨#[]⟩,.string ⟨#[]⟩,.int .i64 1]
  | some bs=>.tuple #[.string ⟨(tfill r bs.length).toArray⟩,.string ⟨bs.toArray⟩,.int .i64 0]) w):=by
 obtain ⟨W1,hW1⟩:∃ W,W=w.alloc (.cells (M.cells vk) 36):=⟨_,rfl⟩
 have hb1:Below w.heap.size w W1:=hW1▸(Below.refl _ _).alloc (Nat.le_refl _) _
 have hkk:(M.kind == 0)=false:=by simpa using hk0
 have h1:=h.new (Chg.of_below (S:=fun _=>False) hb1)
 obtain ⟨V,hV⟩:∃ V,V=(match putO M with
  | none=>Value.tuple #[.string ⟨#[]⟩,.string ⟨#[]⟩,.int .i64 1]
  | some bs=>Value.tuple #[.string ⟨(tfill r bs.length).toArray⟩,.string ⟨bs.toArray⟩,.int .i64 0]):=⟨_,rfl⟩
 rw [←hV]
 have HV:=Lib.hid hV
 clear hV
 obtain ⟨S,hS⟩:∃ S:ByteArray,S=⟨((putO M).getD []).toArray⟩:=⟨_,rfl⟩
 obtain ⟨E,hE⟩:∃ E:Int,E=(if (putO M).isSome then 0 else 1):=⟨_,rfl⟩
 have hall:∀ W,Below w.heap.size w W→TapeG w0 W tb t g st m:=fun W hb=>h.new (Chg.of_below (S:=fun _=>False) hb)
 have hP:(∀ W,Below w.heap.size w W→Calls Tryz.prog 113 #[.pointer (some ⟨t.cb,0,none⟩),M.val vk] W fun e w'=>e = .returned (.tuple #[.string S,.int .i64 E])∧Below W.heap.size W w')∧True:=⟨fun W hb=>by
  have:=rec_put_any M vk t.cb W (hks.below hb (Nat.le_refl _)) hcap hs (hall W hb).tape.tab
  unfold RPutTo at this
  rwa [←hS,←hE] at this,trivial⟩
 have HALL:=Lib.hid hall
 have HR:=Lib.hid hr
 have HSE:=Lib.hid (And.intro hS hE)
 have HB1:=Lib.hid hb1
 have HW1:=Lib.hid hW1
 have HP:=Lib.hid hP
 obtain ⟨c0,c1,c2,c3,c4,c5,z⟩:=h1.tape.cell
 have k:∀ i,W1.cell? ⟨w.heap.size,i,none⟩=(#[.int .i64 M.kind,.int .i64 M.queue,.int .i64 M.due,.int .i64 M.retry,.int .i64 M.ref,.int .i64 M.born,.string M.topic,.string M.tag,.string M.body,vk]:Array Value)[i]?:=fun i=>by rw [hW1];simp [MsgM.cells]
 have HLT:=Lib.hid (And.intro (show w.heap.size<W1.heap.size by rw [hW1,World.size_alloc];omega) (World.block_lt_of_cell? (a:=⟨tb,2,none⟩) (h:=c2)))
 clear h hb1 hW1 hP h1 hks hcap hs hk0 c0 c1 c3 c4 c5 z hr hall hS hE
 unfold MsgM.val at HP ⊢
 unfold MsgM.cells at HP HW1 ⊢
 go_enter Tryz.func70,Tryz.ntmps70
 go_upto_region 1 with fail
 rw [←HW1.out]
 go_upto_region 3 with fail
 go_cut [5,6] (fun v5 v6 wx=>v5 = .string S∧v6 = .int .i64 E∧Below w.heap.size w wx)
 case first=>
  go_region_held3 (fun w'=>(∀ i,w'.cell? ⟨w.heap.size,i,none⟩=(#[.int .i64 M.kind,.int .i64 M.queue,.int .i64 M.due,.int .i64 M.retry,.int .i64 M.ref,.int .i64 M.born,.string M.topic,.string M.tag,.string M.body,vk]:Array Value)[i]?)∧w'.cell? ⟨tb,2,none⟩=some (.pointer (some ⟨t.cb,0,none⟩)))
   (first|exact ⟨k,c2⟩|exact ⟨kk,cc⟩|go_keep)
   (first
   | (go_at_call 113
      ((with_reducible refine (HP.out.1 _ (Below.drew HB1.out)).mono ?_))
      rintro e w2 ⟨rfl,hb⟩
      have kk:=fun i=>(hb.cell (p:=⟨w.heap.size,i,none⟩) HLT.out.1).trans (k i)
      have cc:=(hb.cell (p:=⟨tb,2,none⟩) HLT.out.2).trans c2
      have HB2:=Lib.hid (HB1.out.drew.trans (hb.mono HB1.out.drew.size))
      clear hb))
  all_goals
   go_wp2_with fail
   go_meet
   case rel=>exact ⟨rfl,rfl,by repeat (first|exact HB2.out|with_reducible refine below_drewN ?_ _|with_reducible refine below_drew2 ?_)⟩
 case rest=>
  obtain ⟨rfl,rfl,hbc⟩:=hcut
  have HBC:=Lib.hid hbc
  clear hbc k c2
  have hbr:∀ W,Below w.heap.size w W→Calls Tryz.prog 114 #[.pointer (some ⟨t.rb,0,none⟩)] W fun e w'=>e = .returned (.int .i64 r)∧∃ q,w'=W.drewN q:=fun W hb=>HR.out.call (HALL.out W hb).row
  have HRM:=Lib.hid hbr
  have hce:=(HALL.out _ HBC.out).tape.cell
  obtain ⟨c0,_,_,_,_,_,_⟩:=hce
  clear hbr
  cases hpo:putO M with
  | none=>
   have hE1:=HSE.out.2
   rw [hpo] at hE1
   simp only [Option.isSome_none,Bool.false_eq_true,if_false] at hE1
   subst hE1
   have hv:=HV.out
   rw [hpo] at hv
   simp only at hv
   have HV3:=Lib.hid hv
   clear hpo hv
   go_wp2_with fail
   go_ret3
   exact ⟨by rw [HV3.out];rfl,HBC.out⟩
  | some bs=>
   have hE1:=HSE.out.2
   rw [hpo] at hE1
   simp only [Option.isSome_some,if_true] at hE1
   have hS1:=HSE.out.1
   rw [hpo,Option.getD_some] at hS1
   subst hE1
   have hb3:bs.length≤1100:=by
    have:=put_get hpo []
    omega
   have hsz:S.size=bs.length:=by rw [hS1];rfl
   have hl1024:=HR.out.hl
   have hwr:IntKind.i64.wrap ((r:Int) - S.size)=(r:Int) - S.size:=IntWalk.i64_in _ (by omega)
   have HS1:=Lib.hid hS1
   have HSZ:=Lib.hid hsz
   have HL:=Lib.hid hl1024
   have HML:=Lib.hid (fun W=>mayLeave_any ((r:Int) - S.size) W)
   have hv:=HV.out
   rw [hpo] at hv
   simp only at hv
   rw [←hS1] at hv
   have HV2:=Lib.hid hv
   clear hpo hv hS1 hsz hl1024 hb3
   go_upto_region 6 with fail
   go_wp2_with fail
   refine (HRM.out _ HBC.out).mono ?_
   rintro e w3 ⟨rfl,q,hq⟩
   have HB3:=Lib.hid (show Below w.heap.size w w3 by rw [hq];exact below_drewN HBC.out q)
   clear hq
   go_wp2_with fail
   refine (HML.out _).mono ?_
   rintro e w4 ⟨rfl,rfl⟩
   cases hml:((r:Int) - S.size == 0 || decide (3≤(r:Int) - S.size)) with
   | true=>
    have hf:tfill r bs.length=[]:=by
     unfold tfill
     rw [if_pos]
     simp at hml
     have:=HSZ.out
     omega
    have hv:=HV2.out
    rw [hf] at hv
    have HV3:=Lib.hid hv
    clear hml hv hf
    go_wp2_with fail
    go_ret3
    exact ⟨by rw [HV3.out];rfl,HB3.out⟩
   | false=>
    by_cases h3:3≤r
    ·have hf:tfill r bs.length=fillB r:=by
      unfold tfill
      rw [if_neg,if_pos h3]
      simp at hml
      have:=HSZ.out
      omega
     have hv:=HV2.out
     rw [hf] at hv
     have HV3:=Lib.hid hv
     obtain ⟨F,hF⟩:∃ F:ByteArray,F=⟨(fillB r).toArray⟩:=⟨_,rfl⟩
     have HFI:=Lib.hid (fun W=>fill_yes r F W h3 HL.out hF)
     have HF:=Lib.hid hF
     clear hml hv hf hF h3
     go_wp2_with fail
     refine (HFI.out _).mono ?_
     rintro e w5 ⟨rfl,hb5⟩
     have HB5:=Lib.hid (HB3.out.trans (hb5.mono HB3.out.size))
     clear hb5
     go_wp2_with fail
     go_ret3
     exact ⟨by rw [HV3.out,←HF.out];rfl,HB5.out⟩
    ·have hf:tfill r bs.length=[]:=by
      unfold tfill
      rw [if_neg,if_neg h3]
      simp at hml
      have:=HSZ.out
      omega
     have hv:=HV2.out
     rw [hf] at hv
     have HV3:=Lib.hid hv
     have HFI:=Lib.hid (fun W=>fill_no (r:Int) W (by omega))
     clear hml hv hf h3
     go_wp2_with fail
     refine (HFI.out _).mono ?_
     rintro e w5 ⟨rfl,rfl⟩
     go_wp2_with fail
     go_ret3
     exact ⟨by rw [HV3.out];rfl,HB3.out⟩
def tH:ByteArray:=⟨#[116,97,112,101,45]⟩
def laidF (r:Nat) (M:MsgM):ByteArray×ByteArray×Int:=
 if M.kind=0 then (⟨#[]⟩,⟨#[]⟩,1) else match putO M with|none=>(⟨#[]⟩,⟨#[]⟩,1)|some bs=>(⟨(tfill r bs.length).toArray⟩,⟨bs.toArray⟩,0)
theorem tlaid_all {w0 w:World} {tb:Nat} {t:TapeM} {g:Gh} {st:St} {m:RowM} {r:Nat} (h:TapeG w0 w tb t g st m) (hr:RoomOk m r) (M:MsgM) (vk:Value) (hks:Strs w 0 vk M.keys) (hcap:CapOk vk) (hs:Sound M) {F S:ByteArray} {E:Int} (hl:laidF r M=(F,S,E)) :
 Calls Tryz.prog 70 #[.pointer (some ⟨tb,0,none⟩),M.val vk] w (Adds (.tuple #[.string F,.string S,.int .i64 E]) w):=by
 unfold laidF at hl
 by_cases hk:M.kind=0
 ·rw [if_pos hk] at hl
  cases hl
  exact tlaid_fill tb M vk w hk
 ·rw [if_neg hk] at hl
  have:=tlaid_any h hr M vk hk hks hcap hs
  cases hp:putO M with
  | none=>
   rw [hp] at hl this
   cases hl
   exact this
  | some bs=>
   rw [hp] at hl this
   cases hl
   exact this
theorem fillB_length (n:Nat) (h3:3≤n):(fillB n).length=n:=by
 unfold fillB frameB
 simp [Oc.numB_length]
 omega
theorem tfill_len (r n:Nat):(tfill r n).length≤r:=by
 unfold tfill
 split
 ·exact Nat.zero_le _
 ·split
  ·rename_i h
   rw [fillB_length r h]
   exact Nat.le_refl _
  ·exact Nat.zero_le _
theorem laidF_len {r:Nat} {M:MsgM} {F S:ByteArray} {E:Int} (hl:laidF r M=(F,S,E)):F.size≤r∧S.size≤1100:=by
 unfold laidF at hl
 split at hl
 ·cases hl
  exact ⟨Nat.zero_le _,by decide⟩
 ·cases hp:putO M with
  | none=>
   rw [hp] at hl
   cases hl
   exact ⟨Nat.zero_le _,by decide⟩
  | some bs=>
   rw [hp] at hl
   cases hl
   have h1:=put_get hp []
   exact ⟨tfill_len r bs.length,by show bs.toArray.size≤_;simp;omega⟩
def blockE (st:St) (p:Nat):Int:=if 99999999<p then 2 else if memB (nameB tH p) (namesS (nameB tH p) st)=true then 10 else 0
set_option maxHeartbeats 2000000 in
set_option maxRecDepth 100000 in
theorem tblocked_any {w0 w:World} {tb:Nat} {t:TapeM} {g:Gh} {st:St} {m:RowM} (h:TapeG w0 w tb t g st m) (hn:st.fs.length≤1000000) (p:Nat) (P:Int) (hP:P=(p:Int)) :
 Calls Tryz.prog 118 #[.pointer (some ⟨tb,0,none⟩),.int .i64 P] w (Adds (.int .i64 (blockE st p)) w):=by
 unfold blockE
 by_cases hp:99999999<p
 ·rw [if_pos hp]
  have HN:=Lib.hid (fun W=>name_bad tH P W (.inr (by omega)))
  unfold tH at HN
  clear hp hP h
  go_enter Tryz.func118,Tryz.ntmps118
  go_wp2_with fail
  refine (HN.out _).mono ?_
  rintro e w1 ⟨rfl,rfl⟩
  go_wp2_with fail
  go_ret
  exact ⟨rfl,Below.refl _ _⟩
 ·rw [if_neg hp]
  subst hP
  obtain ⟨nm,hnm⟩:∃ nm,nm=nameB tH p:=⟨_,rfl⟩
  have hN:=name_ok tH p (by omega) (by decide) w h.row.tab
  rw [←hnm] at hN ⊢
  obtain ⟨x,hx⟩:∃ x,memB nm (namesS nm st)=x:=⟨_,rfl⟩
  rw [hx]
  obtain ⟨E,hE⟩:∃ E:Int,E=(if x=true then 10 else 0):=⟨_,rfl⟩
  rw [←hE]
  have HE:=Lib.hid hE
  clear hE
  have HN:=Lib.hid hN
  unfold tH at HN
  have H:=Lib.hid h
  have HX:=Lib.hid hx
  have HLE:=Lib.hid hn
  have HLL:=Lib.hid (Nat.le_trans (namesS_length nm st) hn)
  clear hp hN h hx hnm hn
  go_enter Tryz.func118,Tryz.ntmps118
  go_wp2_with fail
  refine HN.out.mono ?_
  rintro e w1 ⟨rfl,hb1⟩
  have h1:=H.out.new (Chg.of_below (S:=fun _=>False) hb1)
  have HB1:=Lib.hid hb1
  have HL:=Lib.hid (list_strs g st nm w1 h1.row.disk (by have:=HLE.out;omega))
  obtain ⟨_,c1,_,_,_,_,_⟩:=h1.tape.cell
  clear h1 hb1
  go_wp2_with fail
  refine HL.out.mono ?_
  rintro e w2 ⟨v,rfl,hs2,hb2⟩
  have HB2:=Lib.hid (HB1.out.trans (hb2.mono HB1.out.size))
  have HC:=Lib.hid (kcontains_any v (namesS nm st) nm x w2 hs2.zero HLL.out HX.out)
  clear hs2 hb2
  go_wp2_with fail
  refine HC.out.mono ?_
  rintro e w3 ⟨rfl,rfl⟩
  cases x with
  | true=>
   go_wp2_with fail
   go_ret
   exact ⟨by rw [HE.out];rfl,HB2.out⟩
  | false=>
   go_wp2_with fail
   go_ret
   exact ⟨by rw [HE.out];rfl,HB2.out⟩
def refuseE (st:St) (p:Nat) (F S:ByteArray):Int:=if st.cap<st.size+(F.size+S.size) then 7 else if F=⟨#[]⟩ then 0 else blockE st (p+F.size)
set_option maxHeartbeats 2000000 in
set_option maxRecDepth 100000 in
theorem trefuses_any {w0 w:World} {tb:Nat} {t:TapeM} {g:Gh} {st:St} {m:RowM} (h:TapeG w0 w tb t g st m) (hdn:st.down=false) (h1:st.size≤st.cap) (h2:st.cap≤16777216) (hn:st.fs.length≤1000000) (p:Nat) (hp:m.end_=(p:Int)) (hp2:p≤1099511627776) (F S:ByteArray) (hF:F.size≤1024) (hS:S.size≤1100) :
 Calls Tryz.prog 71 #[.pointer (some ⟨tb,0,none⟩),.string F,.string S] w (Adds (.int .i64 (refuseE st p F S)) w):=by
 have hD:=down_any g st w h.row.disk
 rw [hdn] at hD
 have HR:=Lib.hid (room_any g st w h.row.disk h1 h2)
 have HD:=Lib.hid hD
 have H:=Lib.hid h
 have hw1:IntKind.i64.wrap ((F.size:Int)+S.size)=(F.size:Int)+S.size:=IntWalk.i64_in _ (by omega)
 obtain ⟨V,hV⟩:∃ V,V=refuseE st p F S:=⟨_,rfl⟩
 rw [←hV]
 have HV:=Lib.hid hV
 obtain ⟨_,c1,_,_,_,_,_⟩:=h.tape.cell
 by_cases hfull:st.cap<st.size+(F.size+S.size)
 ·have hv:V=7:=by rw [hV];unfold refuseE;rw [if_pos hfull]
  subst hv
  have hlt:(st.cap:Int) - st.size<(F.size:Int)+S.size:=by omega
  clear hV hD h h1 h2 hn hp hp2 hF hS hdn hfull
  go_enter Tryz.func71,Tryz.ntmps71
  go_wp2_with fail
  refine HD.out.mono ?_
  rintro e w1 ⟨rfl,rfl⟩
  go_wp2_with fail
  refine HR.out.mono ?_
  rintro e w2 ⟨rfl,q,hq⟩
  have HB:=Lib.hid (show Below w.heap.size w w2 by rw [hq];exact below_drewN (Below.refl _ _) q)
  clear hq
  go_wp2_with fail
  go_ret
  exact ⟨rfl,HB.out⟩
 ·have hlt:¬ ((st.cap:Int) - st.size<(F.size:Int)+S.size):=by omega
  by_cases hF0:F=⟨#[]⟩
  ·have hv:V=0:=by rw [hV];unfold refuseE;rw [if_neg hfull,if_pos hF0]
   subst hv
   subst hF0
   have hw3:wrap64 (S.size:Int)=S.size:=IntWalk.wrap64_in _ ⟨by omega,by omega⟩
   have hlt2:¬ ((st.cap:Int) - st.size<(S.size:Int)):=by intro hx;apply hlt;show (st.cap:Int) - st.size<((0:Nat):Int)+S.size;omega
   clear hV hD h h1 h2 hn hp hp2 hF hS hdn hfull
   go_enter Tryz.func71,Tryz.ntmps71
   go_wp2_with fail
   refine HD.out.mono ?_
   rintro e w1 ⟨rfl,rfl⟩
   go_wp2_with fail
   refine HR.out.mono ?_
   rintro e w2 ⟨rfl,q,hq⟩
   have HB:=Lib.hid (show Below w.heap.size w w2 by rw [hq];exact below_drewN (Below.refl _ _) q)
   clear hq
   go_wp2_with fail
   go_ret
   exact ⟨rfl,HB.out⟩
  ·have hv:V=blockE st (p+F.size):=by rw [hV];unfold refuseE;rw [if_neg hfull,if_neg hF0]
   have hFb:F.toList.isEmpty=false:=by
    rw [List.isEmpty_eq_false_iff]
    intro hx
    apply hF0
    rw [ByteArray.toList_eq] at hx
    have:=congrArg List.length hx
    rw [Array.length_toList] at this
    exact ByteArray.ext (Array.eq_empty_of_size_eq_zero this)
   have HE:=Lib.hid (fun W (hb:Below w.heap.size w W)=>tend_any (h.new (Chg.of_below (S:=fun _=>False) hb)))
   have HK:=Lib.hid (fun W (hb:Below w.heap.size w W)=>tblocked_any (h.new (Chg.of_below (S:=fun _=>False) hb)) hn (p+F.size) ((p:Int)+F.size) (by omega))
   rw [hp] at HE
   rw [←hv] at HK
   have hw2:IntKind.i64.wrap ((p:Int)+F.size)=(p:Int)+F.size:=IntWalk.i64_in _ (by omega)
   clear hV hD h h1 h2 hn hp hp2 hF hS hdn hfull hv
   go_enter Tryz.func71,Tryz.ntmps71
   go_wp2_with fail
   refine HD.out.mono ?_
   rintro e w1 ⟨rfl,rfl⟩
   go_wp2_with fail
   refine HR.out.mono ?_
   rintro e w2 ⟨rfl,q,hq⟩
   have HB:=Lib.hid (show Below w.heap.size w w2 by rw [hq];exact below_drewN (Below.refl _ _) q)
   clear hq
   go_wp2_with fail
   refine (HE.out _ HB.out).mono ?_
   rintro e w3 ⟨rfl,rfl⟩
   go_wp2_with fail
   refine (HK.out _ HB.out).mono ?_
   rintro e w4 ⟨rfl,hb4⟩
   have HB4:=Lib.hid (HB.out.trans (hb4.mono HB.out.size))
   clear hb4
   go_wp2_with fail
   go_ret
   exact ⟨rfl,HB4.out⟩
def roomT (i0:Nat) (all:List UInt8):Nat:=1024 - (1024*i0+all.length) % 1024
theorem RowC.roomOk {n:Nat} {m:RowM} {st:St} {i0 j:Nat} {all:List UInt8} (h:RowC n m st 1024 i0 j all):RoomOk m (roomT i0 all):=by
 have h1:=h.row.room_eq
 have h2:=h.row.end_
 have h3:=h.row.next
 have h4:=h.row.e1
 have h5:=h.row.room
 unfold roomT
 exact ⟨by omega,by omega,by omega,by omega,by omega⟩
theorem RowG.apart {w0 w w':World} {b:Nat} {g:Gh} {st:St} {m:RowM} (h:RowG w0 w b g st m) {S:Nat→Prop} (hc:Chg S w w') (hS:∀ q,S q→q≠b∧q∉g.fp∧w0.heap.size≤q):RowG w0 w' b g st m:=
 ⟨h.disk.chg hc (fun q hq hx=>(hS q hx).2.1 hq),h.row.chg hc (fun hx=>(hS _ hx).1 rfl),h.out,h.chg.trans hc (fun q hq hx=>by have:=(hS q hx).2.2;omega),h.low,h.lowb,h.tab0⟩
theorem TapeG.noted {w0 w w':World} {tb:Nat} {t:TapeM} {g:Gh} {st:St} {m:RowM} {id size born:Int} {e:Ending} (h:TapeG w0 w tb t g st m) (k:NoteTo w0 w tb g.d t id size born e w') :
 e = .returned (.tuple #[])∧∃ v',TapeG w0 w' tb (t.noted v' id size born) g st m∧Chg (fun q=>q∈t.foot tb) w w'∧∀ q∈(t.noted v' id size born).foot tb,q∈t.foot tb∨w.heap.size≤q:=by
 obtain ⟨rfl,v',ht,hc,hf⟩:=k
 refine ⟨rfl,v',⟨h.row.apart hc (fun q hq=>⟨(h.out q hq).1,(h.out q hq).2,h.tape.low q hq⟩),ht,fun q hq=>?_⟩,hc,hf⟩
 rcases hf q hq with x|x
 ·exact h.out q x
 ·refine ⟨fun e=>?_,fun hx=>?_⟩
  ·have:=h.row.row.lt
   have e':q=t.rb:=e
   omega
  ·have:=h.row.disk.lt q hx
   omega
set_option maxHeartbeats 2000000 in
set_option maxRecDepth 100000 in
theorem tapp_arg {w0 w:World} {tb:Nat} {t:TapeM} {g:Gh} {st:St} {m:RowM} {r:Nat} (h:TapeG w0 w tb t g st m) (hr:RoomOk m r) (M:MsgM) (vk:Value) (hks:Strs w 0 vk M.keys) (hcap:CapOk vk) (hs:Sound M) {F S:ByteArray} (hl:laidF r M=(F,S,1)) :
 Calls Tryz.prog 33 #[.pointer (some ⟨tb,0,none⟩),M.val vk] w (Adds (.tuple #[.int .i64 0,.int .i64 1]) w):=by
 have HL:=Lib.hid (fun W (hb:Below w.heap.size w W)=>tlaid_all (h.new (Chg.of_below (S:=fun _=>False) hb)) hr M vk (hks.below hb (Nat.le_refl _)) hcap hs hl)
 clear h hr hks hcap hs hl
 unfold MsgM.val MsgM.cells at HL ⊢
 go_enter Tryz.func33,Tryz.ntmps33
 go_wp2_with fail
 refine (HL.out _ ((Below.refl w.heap.size w).alloc (Nat.le_refl _) _)).mono ?_
 rintro e w1 ⟨rfl,hb⟩
 have HB:=Lib.hid (((Below.refl w.heap.size w).alloc (Nat.le_refl _) _).trans (hb.mono (by simp)))
 clear hb
 go_wp2_with fail
 go_ret2
 exact ⟨rfl,HB.out⟩
set_option maxHeartbeats 2000000 in
set_option maxRecDepth 100000 in
theorem tapp_refused {w0 w:World} {tb:Nat} {t:TapeM} {g:Gh} {st:St} {m:RowM} {r:Nat} (h:TapeG w0 w tb t g st m) (hr:RoomOk m r) (M:MsgM) (vk:Value) (hks:Strs w 0 vk M.keys) (hcap:CapOk vk) (hs:Sound M) {F S:ByteArray} (hl:laidF r M=(F,S,0))
 (hdn:st.down=false) (h1:st.size≤st.cap) (h2:st.cap≤16777216) (hn:st.fs.length≤1000000) (p:Nat) (hp:m.end_=(p:Int)) (hp2:p≤1099511627776) {V:Int} (hV:refuseE st p F S=V) (hV0:V≠0) :
 Calls Tryz.prog 33 #[.pointer (some ⟨tb,0,none⟩),M.val vk] w (Adds (.tuple #[.int .i64 0,.int .i64 V]) w):=by
 have hln:=laidF_len hl
 have hrl:=hr.hl
 have HL:=Lib.hid (fun W (hb:Below w.heap.size w W)=>tlaid_all (h.new (Chg.of_below (S:=fun _=>False) hb)) hr M vk (hks.below hb (Nat.le_refl _)) hcap hs hl)
 have hRF:∀ W,Below w.heap.size w W→_:=fun W (hb:Below w.heap.size w W)=>trefuses_any (h.new (Chg.of_below (S:=fun _=>False) hb)) hdn h1 h2 hn p hp hp2 F S (by omega) hln.2
 rw [hV] at hRF
 have HRF:=Lib.hid hRF
 have hvb:(V != 0)=true:=by simpa using hV0
 clear h hr hks hcap hs hl hRF hV hV0 hdn h1 h2 hn hp hp2 hln hrl
 unfold MsgM.val MsgM.cells at HL ⊢
 go_enter Tryz.func33,Tryz.ntmps33
 go_wp2_with fail
 refine (HL.out _ ((Below.refl w.heap.size w).alloc (Nat.le_refl _) _)).mono ?_
 rintro e w1 ⟨rfl,hb⟩
 have HB:=Lib.hid (((Below.refl w.heap.size w).alloc (Nat.le_refl _) _).trans (hb.mono (by simp)))
 clear hb
 go_wp2_with fail
 refine (HRF.out _ HB.out).mono ?_
 rintro e w2 ⟨rfl,hb2⟩
 have HB2:=Lib.hid (HB.out.trans (hb2.mono HB.out.size))
 clear hb2
 go_wp2_with fail
 go_ret2
 exact ⟨rfl,HB2.out⟩
theorem newC (head:ByteArray) (z:Nat) (c:Int) (hh:head.size≤100) (h1:16≤z) (h2:z≤4096):RowC 0 (newRow head (z:Int)) (newSt c) z 0 0 []:=by
 have hm:(newRow head (z:Int)).head=head:=rfl
 refine ⟨⟨⟨Good.new c,rfl,rfl⟩,hh,rfl,h1,h2,?_,?_,?_,Nat.le_refl _,by omega,by omega,by simp,by simp,fun nm=>?_,fun i a b=>by omega,fun _=>rfl,⟨0,?_,Nat.le_refl _,by omega⟩⟩,fun i a b=>by omega,fun hx=>by omega,fun p h=>by cases h⟩
 ·show (0:Int)=_;simp
 ·show (0:Int)=_;simp
 ·show (0:Int)=_;simp
 ·rw [hm,plS_done _ _ _ (by omega)]
  constructor
  ·rintro ⟨a,b⟩
   cases a
  ·rintro ⟨p,hp,_⟩
   cases hp
 ·show (0:Int)=_;simp
set_option maxHeartbeats 2000000 in
set_option maxRecDepth 100000 in
theorem tgather_empty {w0 w:World} {tb:Nat} {t:TapeM} {g:Gh} {st:St} {m:RowM} (h:TapeG w0 w tb t g st m) (hbe:m.begin_=m.end_) (a:Int) (ha:m.begin_=a) :
 Calls Tryz.prog 64 #[.pointer (some ⟨tb,0,none⟩)] w fun e w'=>e = .returned (.tuple #[.int .i64 a,.int .i64 0])∧w=w':=by
 have hB:=tbegin_any h
 have hE:=tend_any h
 rw [←hbe,ha] at hE
 rw [ha] at hB
 have HB:=Lib.hid hB
 have HE:=Lib.hid hE
 clear h hbe ha hB hE
 go_enter Tryz.func64,Tryz.ntmps64
 go_wp2_with fail
 refine HB.out.mono ?_
 rintro e w1 ⟨rfl,rfl⟩
 go_wp2_with fail
 go_loopw [4] (fun i wr=>i = .int .i64 a∧w=wr) (fun _ _=>0)
 case atStart=>exact ⟨rfl,rfl⟩
 case round=>
  obtain ⟨rfl,rfl⟩:=hrel
  have hlt:¬ a<a:=by omega
  go_wp2_with fail
  refine HE.out.mono ?_
  rintro e w1 ⟨rfl,rfl⟩
  go_wp2_with fail
  go_ret2
  exact ⟨rfl,rfl⟩
def TNewTo (w0 w:World) (g:Gh) (st:St) (e:Ending) (w':World):Prop:=
 ∃ tb t g' m' st',e = .returned (.tuple #[.pointer (some ⟨tb,0,none⟩),.int .i64 0])∧w.heap.size≤tb∧TapeG w0 w' tb t g' st' m'∧g'.d=g.d∧t.ids=[]∧t.M=[]∧t.last=0∧m'.head=tH∧m'.synced=0∧RowC 0 m' st' 1024 0 0 []∧st'.cap=st.cap ∧
  Chg (fun q=>q∈g.fp) w w'∧Others tH st st'
set_option maxHeartbeats 4000000 in
set_option maxRecDepth 100000 in
theorem topen_new {w0 w:World} {d:Nat} {g:Gh} {c:Int} (hd:DiskG w0 w d g (newSt c)) (ht:Tab10 w0) :
 Calls Tryz.prog 29 #[.pointer (some ⟨d,0,none⟩)] w (TNewTo w0 w g (newSt c)):=by
 have hS:=c_open hd ht (newC tH 1024 c (by decide) (by decide) (by decide)) (by omega)
 rw [show (newRow tH ((1024:Nat):Int)).head=tH from rfl] at hS
 unfold tH at hS
 have HS:=Lib.hid hS
 have HD:=Lib.hid hd
 clear hS hd
 go_enter Tryz.func29,Tryz.ntmps29
 go_wp2_with fail
 refine HS.out.mono ?_
 rintro e w1 ⟨rb,rfl,hrb,g1,m1,q1,q2,q3,q4,q5⟩
 have hC:=Cr.new_any w1
 have HC:=Lib.hid hC
 have HQ:=Lib.hid (And.intro q1 (And.intro q2 (And.intro q3 (And.intro q4 q5))))
 have HRB:=Lib.hid hrb
 have hmm:=@run_makeMap Tryz.prog
 clear q1 q2 q3 q4 q5 hrb hC
 go_wp2_with fail
 refine HC.out.mono ?_
 rintro e w2 ⟨rfl,htb,hb2⟩
 obtain ⟨t0,ht0⟩:∃ t0:TapeM,t0=⟨rb,w1.heap.size,w2.heap.size,.slice none 0 0,[],0,[]⟩:=⟨_,rfl⟩
 obtain ⟨W3,hW3⟩:∃ W,W=(w2.alloc (.map #[] 0)).alloc (.cells (t0.cells d) 105):=⟨_,rfl⟩
 have hb3:Below w1.heap.size w1 W3:=hW3▸(hb2.alloc hb2.size _).alloc (Nat.le_trans hb2.size (by simp)) _
 have h23:Below w2.heap.size w2 W3:=hW3▸((Below.refl _ _).alloc (Nat.le_refl _) _).alloc (by simp) _
 have hg3:TapeG w0 W3 (w2.heap.size+1) t0 g1 (newSt c) m1:=by
  obtain ⟨q1,q2,q3,q4,q5⟩:=HQ.out
  have hl1:=q1.chg.size
  have hlt:w1.heap.size<w2.heap.size:=htb.lt
  refine ⟨by rw [ht0];exact q1.new (Chg.of_below hb3),⟨?_,?_,?_,?_,?_,?_⟩,fun q hq=>?_⟩
  ·rw [hW3,q2.d,HD.out.d]
   have:=heap_alloc_new (w2.alloc (.map #[] 0)) (.cells (t0.cells d) 105 (0,0))
   rwa [World.size_alloc] at this
  ·rw [ht0]
   exact World.rowIs.of_block htb (h23.block _ htb.lt)
  ·rw [ht0]
   refine (MapK.made w2).heap ?_
   rw [hW3]
   exact Below.heap_alloc _ _ _ (by simp)
  ·rw [ht0]
   exact ownI_nil _ _
  ·rw [ht0]
   simp [TapeM.foot,Value.ownBlock]
   omega
  ·intro q hq
   rw [ht0] at hq
   simp [TapeM.foot,Value.ownBlock] at hq
   omega
  ·rw [ht0] at hq
   simp [TapeM.foot,Value.ownBlock] at hq
   have hr:=q1.row.lt
   refine ⟨?_,fun hx=>?_⟩
   ·rw [ht0]
    show q≠rb
    omega
   ·have:=q1.disk.lt q hx
    omega
 have hbe:m1.begin_=0:=by have:=HQ.out.2.2.2.2.row.beg;simpa using this
 have hen:m1.end_=0:=by have:=HQ.out.2.2.2.2.row.end_;simpa using this
 have hsy:m1.synced=0:=by have:=HQ.out.2.2.2.1;simpa using this
 have HGA:=Lib.hid (tgather_empty hg3 (by rw [hbe,hen]) 0 hbe)
 have hcu:=c_cut hg3.row HQ.out.2.2.2.2 (by omega) 0 (by omega) (by omega) (by rw [hsy,hen];omega)
 rw [hsy,ht0] at hcu
 simp only [Nat.zero_sub,List.take_zero,Nat.mul_zero] at hcu
 have HCU:=Lib.hid hcu
 obtain ⟨c0,_,_,_,_,_,_⟩:=hg3.tape.cell
 rw [ht0] at c0
 simp only at c0
 have HG3:=Lib.hid hg3
 have HB3:=Lib.hid hb3
 have HT0:=Lib.hid ht0
 have HLT12:=Lib.hid (show w1.heap.size<w2.heap.size from htb.lt)
 rw [ht0] at hW3
 unfold TapeM.cells at hW3
 have HW3:=Lib.hid hW3
 clear hbe hen hsy hcu hg3 hb3 ht0 hW3 h23 htb hb2
 go_upto_region 5 with fail
 rw [←HW3.out]
 clear hmm
 go_wp2_with fail
 refine HGA.out.mono ?_
 rintro e w4 ⟨rfl,rfl⟩
 go_wp2_with fail
 refine HCU.out.mono ?_
 rintro e w4 ⟨rfl,j',hj1,hj2,g2,m2,st2,p1,p2,p3,p4,p5,p6,p7⟩
 have hrb0:t0.rb=rb:=by rw [HT0.out]
 rw [←hrb0] at p1 p2
 have hT4:=HG3.out.step p1 p2
 obtain rfl:0=j':=by simpa using hj2
 have HSY:=Lib.hid (tsync_any hT4 p6 (by omega))
 have HP:=Lib.hid (And.intro p2 (And.intro p4 (And.intro p7 p3)))
 have HRB0:=Lib.hid hrb0
 clear hj1 hj2 p1 p2 p3 p4 p5 p6 p7 hrb0 hT4 c0
 go_wp2_with fail
 refine HSY.out.mono ?_
 rintro e w5 ⟨rfl,g3,m3,st3,r1,r2,r3,r4,r5,r6,r7,r8,r9⟩
 have HR:=Lib.hid (And.intro r1 (And.intro r2 (And.intro r3 (And.intro r4 (And.intro r5 (And.intro r6 r7))))))
 have HOT:=Lib.hid (And.intro HP.out.2.2.2 r9)
 clear r1 r2 r3 r4 r5 r6 r7 r8 r9
 go_wp2_with fail
 go_ret2
 obtain ⟨r1,r2,r3,r4,r5,r6,r7⟩:=HR.out
 obtain ⟨p2,p4,p7,p3⟩:=HP.out
 obtain ⟨q1,q2,q3,q4,q5⟩:=HQ.out
 have s1:=q2.chg.size
 have s3:=HB3.out.size
 have e0:=HRB.out
 have e1:=HRB0.out
 have htl:w.heap.size≤w2.heap.size+1:=by
  have:=HG3.out.tape.lt _ (mem_foot_cb t0 _)
  have h5:=HG3.out.tape.apart
  have h6:=HG3.out.tape.low
  have h7:w1.heap.size<w2.heap.size:=by
   have:=HW3.out
   have hx:=HB3.out
   exact HLT12.out
  omega
 refine ⟨_,t0,g3,m3,st3,rfl,htl,r1,r2.trans (p2.d.trans q2.d),by rw [HT0.out],by rw [HT0.out],by rw [HT0.out],r3.trans (p4.trans q3),by rw [r4];rfl,r5,r6.trans p7,?_,?_⟩
 have a2:Chg (fun q=>q∈g.fp) w W3:=q2.chg.trans (Chg.of_below (S:=fun _=>False) HB3.out) (fun _ _ x=>x.elim)
 have a3:Chg (fun q=>q∈g.fp) w w4:=a2.trans p2.chg (fun i hi x=>by
  rcases x with x|x
  ·omega
  ·rcases q2.fp i x with y|y
   ·exact y
   ·omega)
 ·refine a3.trans r7 (fun i hi x=>?_)
  rcases x with x|x
  ·omega
  ·rcases p2.fp i x with y|y
   ·rcases q2.fp i y with z|z
    ·exact z
    ·omega
   ·omega
 ·have o1:=HOT.out.1
  have o2:=HOT.out.2
  rw [p4,q3] at o2
  rw [q3] at o1
  exact o1.trans o2
theorem twf_nat (n:Nat) (h:n≤9223372036854775807):(Lit.int .i64 (n:Int)).wf=true:=by
 have h1:IntKind.i64.min≤(n:Int)∧(n:Int)≤IntKind.i64.max:=by
  rw [show IntKind.i64.min=(-9223372036854775808:Int) from by decide,show IntKind.i64.max=(9223372036854775807:Int) from by decide]
  omega
 simpa [Lit.wf] using h1
theorem cell_of_block {w w':World} {b:Nat} (h:w'.heap[b]? = w.heap[b]?) (i:Nat):w'.cell? ⟨b,i,none⟩=w.cell? ⟨b,i,none⟩:=by
 simp [World.cell?,h]
def TAppTo (w0 w:World) (tb:Nat) (t:TapeM) (g:Gh) (st:St) (m:RowM) (n i0:Nat) (all add:List UInt8) (id size born:Int) (w':World):Prop:=
 ∃ g' m' st' v' j',TapeG w0 w' tb (t.noted v' id size born) g' st' m'∧g'.d=g.d∧m'.head=m.head∧m'.synced=m.synced∧RowC n m' st' 1024 i0 j' (all ++ add)∧st'.size=st.size+add.length∧st'.cap=st.cap∧Others m.head st st' ∧
  Chg (fun q=>q∈t.foot tb∨q=t.rb∨q∈g.fp) w w'∧(∀ q∈g'.fp,q∈g.fp∨w.heap.size≤q)∧∀ q∈(t.noted v' id size born).foot tb,q∈t.foot tb∨w.heap.size≤q
theorem app_one {w0 w w3 w4 w5:World} {tb:Nat} {t:TapeM} {g:Gh} {st:St} {m:RowM} {id size born:Int} {e:Ending} (h:TapeG w0 w tb t g st m) (hb:Below w.heap.size w w3)
 (h3:TapeG w0 w3 tb t g st m) {g':Gh} {m':RowM} {st':St} (h4:RowG w0 w4 t.rb g' st' m') (ht:RowTo w3 t.rb g g' w4) (hk:NoteTo w0 w4 tb g'.d t id size born e w5) :
 e = .returned (.tuple #[])∧∃ v',TapeG w0 w5 tb (t.noted v' id size born) g' st' m'∧Chg (fun q=>q∈t.foot tb∨q=t.rb∨q∈g.fp) w w5∧(∀ q∈g'.fp,q∈g.fp∨w.heap.size≤q)∧∀ q∈(t.noted v' id size born).foot tb,q∈t.foot tb∨w.heap.size≤q:=by
 obtain ⟨he,v',k1,k2,k3⟩:=(h3.step h4 ht).noted hk
 have hsz:=hb.size
 have hsz4:=ht.chg.size
 refine ⟨he,v',k1,?_,fun q hq=>?_,fun q hq=>(k3 q hq).imp (fun x=>x) (fun x=>by omega)⟩
 ·have a1:Chg (fun q=>q∈t.foot tb∨q=t.rb∨q∈g.fp) w w3:=Chg.of_below hb
  have a2:Chg (fun q=>q∈t.foot tb∨q=t.rb∨q∈g.fp) w w4:=a1.trans ht.chg (fun i _ x=>.inr x)
  exact a2.trans k2 (fun i _ x=>.inl x)
 ·rcases ht.fp q hq with x|x
  ·exact .inl x
  ·exact .inr (by omega)
set_option maxHeartbeats 2000000 in
set_option maxRecDepth 100000 in
theorem tapp_plain {w0 w:World} {tb:Nat} {t:TapeM} {g:Gh} {st:St} {m:RowM} {n i0 j:Nat} {all:List UInt8} (h:TapeG w0 w tb t g st m) (hk:RowC n m st 1024 i0 j all) (M:MsgM) (vk:Value) (hks:Strs w 0 vk M.keys) (hcap:CapOk vk) (hs:Sound M) {S:ByteArray} (hl:laidF (roomT i0 all) M=(⟨#[]⟩,S,0))
 (h1:st.size≤st.cap) (h2:st.cap≤16777216) (hfl:st.fs.length≤1000000) (hrf:refuseE st (1024*i0+all.length) ⟨#[]⟩ S=0) (hn:n≤900) (hjr:1024*(j+1)≤99000000) (hS0:S.size≠0) (hSr:S.size≤roomT i0 all) (hml:t.M.length≤1000000) (hil:t.ids.length≤1000000) :
 Calls Tryz.prog 33 #[.pointer (some ⟨tb,0,none⟩),M.val vk] w fun e w'=>e = .returned (.tuple #[.int .i64 ((1024*i0+all.length:Nat):Int),.int .i64 0])∧TAppTo w0 w tb t g st m (n+2) i0 all S.data.toList ((1024*i0+all.length:Nat):Int) S.size M.born w':=by
 have hr:=hk.roomOk
 have hfit:S.size≤st.cap - st.size:=by
  unfold refuseE at hrf
  by_cases hx:st.cap<st.size+((⟨#[]⟩:ByteArray).size+S.size)
  ·rw [if_pos hx] at hrf;omega
  ·have:(⟨#[]⟩:ByteArray).size=0:=rfl
   omega
 have hend:=hk.row.end_
 have hrm:=hk.row.room
 have he1:=hk.row.e1
 obtain ⟨p,hp⟩:∃ p,p=1024*i0+all.length:=⟨_,rfl⟩
 have hpw:(Lit.int .i64 (p:Int)).wf=true:=twf_nat _ (by omega)
 have hL:∀ W,Below w.heap.size w W→_:=fun W (hb:Below w.heap.size w W)=>tlaid_all (h.new (Chg.of_below (S:=fun _=>False) hb)) hr M vk (hks.below hb (Nat.le_refl _)) hcap hs hl
 have hRF:∀ W,Below w.heap.size w W→_:=fun W (hb:Below w.heap.size w W)=>trefuses_any (h.new (Chg.of_below (S:=fun _=>False) hb)) hk.row.calm.down h1 h2 hfl (1024*i0+all.length) hend (by omega) ⟨#[]⟩ S (by decide) (laidF_len hl).2
 have hA:∀ W,Below w.heap.size w W→_:=fun W (hb:Below w.heap.size w W)=>c_append (h.new (Chg.of_below (S:=fun _=>False) hb)).row hk (by omega) S hS0 (by rw [hr.hr];omega) hfit hjr
 rw [hrf] at hRF
 rw [←hp] at hA ⊢
 have HL:=Lib.hid hL
 have HRF:=Lib.hid hRF
 have HA:=Lib.hid hA
 have H:=Lib.hid h
 have HP:=Lib.hid hp
 have HPW:=Lib.hid hpw
 have HML:=Lib.hid (And.intro hml hil)
 clear hks hcap hs hl hL hRF hA hp hpw hml hil h1 h2 hfl hrf hn hjr hS0 hSr hfit hend hrm he1 hr hk
 obtain ⟨W1,hW1⟩:∃ W,W=w.alloc (.cells (M.cells vk) 36):=⟨_,rfl⟩
 have hb1:Below w.heap.size w W1:=hW1▸(Below.refl _ _).alloc (Nat.le_refl _) _
 have k:∀ i,W1.cell? ⟨w.heap.size,i,none⟩=(M.cells vk)[i]?:=fun i=>by rw [hW1];simp [MsgM.cells]
 have hlt:w.heap.size<W1.heap.size:=by rw [hW1,World.size_alloc];omega
 have HLT:=Lib.hid hlt
 have HB1:=Lib.hid hb1
 have HW1:=Lib.hid hW1
 clear hb1 hW1 hlt h
 have HNT:=Lib.hid (fun (W:World) (D:Nat) (T:TapeAt w0 W tb D t) (a b:Int) (c:w0.heap.size≤W.heap.size) (d:(Lit.int .i64 a).wf=true)=>tnote_any T c a b M vk d HML.out.1 HML.out.2)
 unfold MsgM.val at HL HNT ⊢
 unfold MsgM.cells at HL HW1 HNT k ⊢
 go_enter Tryz.func33,Tryz.ntmps33
 go_upto_region 1 with fail
 rw [←HW1.out]
 go_wp2_with fail
 refine (HL.out _ HB1.out).mono ?_
 rintro e w2 ⟨rfl,hb2⟩
 have HB2:=Lib.hid (HB1.out.trans (hb2.mono HB1.out.size))
 have k2:∀ i,w2.cell? ⟨w.heap.size,i,none⟩=_:=fun i=>(hb2.cell (p:=⟨w.heap.size,i,none⟩) HLT.out).trans (k i)
 have HL2:=Lib.hid (Nat.lt_of_lt_of_le HLT.out hb2.size)
 clear hb2 k
 go_wp2_with fail
 refine (HRF.out _ HB2.out).mono ?_
 rintro e w3 ⟨rfl,hb3⟩
 have HB3:=Lib.hid (HB2.out.trans (hb3.mono HB2.out.size))
 have k3:∀ i,w3.cell? ⟨w.heap.size,i,none⟩=_:=fun i=>(hb3.cell (p:=⟨w.heap.size,i,none⟩) HL2.out).trans (k2 i)
 have h3:=H.out.new (Chg.of_below (S:=fun _=>False) HB3.out)
 obtain ⟨c0,_,_,_,_,_,_⟩:=h3.tape.cell
 have H3:=Lib.hid h3
 have HL3:=Lib.hid hb3.size
 clear hb3 k2 h3
 go_wp2_with fail
 refine (HA.out _ HB3.out).mono ?_
 rintro e w4 ⟨rfl,g',m',st',q1,q2,q3,q4,q5,q6,q7,q8⟩
 have k4:∀ i,w4.cell? ⟨w.heap.size,i,none⟩=_:=fun i=>(cell_of_block (q2.chg.block _ (Nat.lt_of_lt_of_le HL2.out (by have:=HB3.out.size;have:=HL3.out;omega)) (fun hx=>by
  have a1:=H.out.row.row.lt
  have a2:=H.out.row.disk.lt
  rcases hx with x|x
  ·have x':w.heap.size=t.rb:=x
   omega
  ·have:=a2 w.heap.size x
   omega)) i).trans (k3 i)
 have HK4:=Lib.hid (H3.out.step q1 q2)
 have HNT4:=Lib.hid (fun b=>HNT.out w4 g'.d (HK4.out.tape) (p:Int) b (by have:=HK4.out.chg.size;exact this) HPW.out)
 have HQ:=Lib.hid (And.intro q1 (And.intro q2 (And.intro q3 (And.intro q4 (And.intro q5 (And.intro q6 (And.intro q7 q8)))))))
 clear q1 q2 q3 q4 q5 q6 q7 q8 k3
 go_wp2_with fail
 refine (HNT4.out (S.size:Int)).mono ?_
 rintro e w5 hN
 obtain ⟨rfl,v',r1,r2,r3⟩:=app_one H.out HB3.out H3.out HQ.out.1 HQ.out.2.1 hN
 have HR:=Lib.hid (And.intro r1 (And.intro r2 r3))
 clear hN r1 r2 r3 k4
 go_wp2_with fail
 go_ret2
 obtain ⟨q1,q2,q3,q4,q5,q6,q7,q8⟩:=HQ.out
 refine ⟨rfl,g',m',st',v',_,HR.out.1,q2.d,q4,q5,q6,?_,q8,q3,HR.out.2.1,HR.out.2.2⟩
 rw [q7,Array.length_toList]
 rfl
set_option maxHeartbeats 2000000 in
set_option maxRecDepth 100000 in
theorem tapp_fill {w0 w:World} {tb:Nat} {t:TapeM} {g:Gh} {st:St} {m:RowM} {n i0 j:Nat} {all:List UInt8} (h:TapeG w0 w tb t g st m) (hk:RowC n m st 1024 i0 j all) (M:MsgM) (vk:Value) (hks:Strs w 0 vk M.keys) (hcap:CapOk vk) (hs:Sound M) {F S:ByteArray} (hl:laidF (roomT i0 all) M=(F,S,0)) (hF0:F.size=roomT i0 all)
 (h1:st.size≤st.cap) (h2:st.cap≤16777216) (hfl:st.fs.length≤1000000) (hrf:refuseE st (1024*i0+all.length) F S=0) (hn:n≤900) (hjr:1024*(j+2)≤99000000) (hS0:S.size≠0) (hSr:S.size≤1024) (hml:t.M.length≤1000000) (hil:t.ids.length≤1000000) :
 Calls Tryz.prog 33 #[.pointer (some ⟨tb,0,none⟩),M.val vk] w fun e w'=>e = .returned (.tuple #[.int .i64 ((1024*i0+(all ++ F.data.toList).length:Nat):Int),.int .i64 0])∧TAppTo w0 w tb t g st m (n+4) i0 all (F.data.toList ++ S.data.toList) ((1024*i0+(all ++ F.data.toList).length:Nat):Int) S.size M.born w':=by
 have hr:=hk.roomOk
 have hfit:F.size+S.size≤st.cap - st.size:=by
  unfold refuseE at hrf
  by_cases hx:st.cap<st.size+(F.size+S.size)
  ·rw [if_pos hx] at hrf;omega
  ·omega
 have hrpos:0<roomT i0 all∧(1024*i0+all.length+roomT i0 all) % 1024=0∧roomT i0 all≤1024:=by unfold roomT;omega
 have hFl:F.data.toList.length=F.size:=Array.length_toList
 have hFb:F.toList.isEmpty=false:=by
  rw [List.isEmpty_eq_false_iff]
  intro hx
  rw [ByteArray.toList_eq] at hx
  rw [hx] at hFl
  simp at hFl
  omega
 have hend:=hk.row.end_
 have hrm:=hk.row.room
 have he1:=hk.row.e1
 obtain ⟨p,hp⟩:∃ p,p=1024*i0+(all ++ F.data.toList).length:=⟨_,rfl⟩
 have hpw:(Lit.int .i64 (p:Int)).wf=true:=twf_nat _ (by rw [hp,List.length_append];omega)
 have hL:∀ W,Below w.heap.size w W→_:=fun W (hb:Below w.heap.size w W)=>tlaid_all (h.new (Chg.of_below (S:=fun _=>False) hb)) hr M vk (hks.below hb (Nat.le_refl _)) hcap hs hl
 have hRF:∀ W,Below w.heap.size w W→_:=fun W (hb:Below w.heap.size w W)=>trefuses_any (h.new (Chg.of_below (S:=fun _=>False) hb)) hk.row.calm.down h1 h2 hfl (1024*i0+all.length) hend (by omega) F S (by omega) (laidF_len hl).2
 have hA:∀ W,Below w.heap.size w W→_:=fun W (hb:Below w.heap.size w W)=>c_append (h.new (Chg.of_below (S:=fun _=>False) hb)).row hk (by omega) F (by omega) (by rw [hr.hr];omega) (by omega) (by omega)
 rw [hrf] at hRF
 rw [←hp]
 have HARG:=Lib.hid (And.intro hn (And.intro hjr (And.intro hS0 (And.intro hSr (And.intro hfit (And.intro hF0 (And.intro hrpos hFl)))))))
 have HL:=Lib.hid hL
 have HRF:=Lib.hid hRF
 have HA:=Lib.hid hA
 have H:=Lib.hid h
 have HP:=Lib.hid hp
 have HPW:=Lib.hid hpw
 have HML:=Lib.hid (And.intro hml hil)
 clear hks hcap hs hl hL hRF hA hp hpw hml hil h1 h2 hfl hrf hn hjr hS0 hSr hfit hend hrm he1 hr hk hF0 hrpos hFl
 obtain ⟨W1,hW1⟩:∃ W,W=w.alloc (.cells (M.cells vk) 36):=⟨_,rfl⟩
 have hb1:Below w.heap.size w W1:=hW1▸(Below.refl _ _).alloc (Nat.le_refl _) _
 have k:∀ i,W1.cell? ⟨w.heap.size,i,none⟩=(M.cells vk)[i]?:=fun i=>by rw [hW1];simp [MsgM.cells]
 have hlt:w.heap.size<W1.heap.size:=by rw [hW1,World.size_alloc];omega
 have HLT:=Lib.hid hlt
 have HB1:=Lib.hid hb1
 have HW1:=Lib.hid hW1
 clear hb1 hW1 hlt h
 have HNT:=Lib.hid (fun (W:World) (D:Nat) (T:TapeAt w0 W tb D t) (a b:Int) (c:w0.heap.size≤W.heap.size) (d:(Lit.int .i64 a).wf=true)=>tnote_any T c a b M vk d HML.out.1 HML.out.2)
 unfold MsgM.val at HL HNT ⊢
 unfold MsgM.cells at HL HW1 HNT k ⊢
 go_enter Tryz.func33,Tryz.ntmps33
 go_upto_region 1 with fail
 rw [←HW1.out]
 go_wp2_with fail
 refine (HL.out _ HB1.out).mono ?_
 rintro e w2 ⟨rfl,hb2⟩
 have HB2:=Lib.hid (HB1.out.trans (hb2.mono HB1.out.size))
 have k2:∀ i,w2.cell? ⟨w.heap.size,i,none⟩=_:=fun i=>(hb2.cell (p:=⟨w.heap.size,i,none⟩) HLT.out).trans (k i)
 have HL2:=Lib.hid (Nat.lt_of_lt_of_le HLT.out hb2.size)
 clear hb2 k
 go_wp2_with fail
 refine (HRF.out _ HB2.out).mono ?_
 rintro e w3 ⟨rfl,hb3⟩
 have HB3:=Lib.hid (HB2.out.trans (hb3.mono HB2.out.size))
 have k3:∀ i,w3.cell? ⟨w.heap.size,i,none⟩=_:=fun i=>(hb3.cell (p:=⟨w.heap.size,i,none⟩) HL2.out).trans (k2 i)
 have h3:=H.out.new (Chg.of_below (S:=fun _=>False) HB3.out)
 obtain ⟨c0,_,_,_,_,_,_⟩:=h3.tape.cell
 have H3:=Lib.hid h3
 have HL3:=Lib.hid hb3.size
 have HLT3:=Lib.hid (Nat.lt_of_lt_of_le HL2.out hb3.size)
 clear hb3 k2 h3
 go_wp2_with fail
 refine (HA.out _ HB3.out).mono ?_
 rintro e w4 ⟨rfl,g',m',st',q1,q2,q3,q4,q5,q6,q7,q8⟩
 have k4:∀ i,w4.cell? ⟨w.heap.size,i,none⟩=_:=fun i=>(cell_of_block (q2.chg.block _ (Nat.lt_of_lt_of_le HL2.out (by have:=HB3.out.size;have:=HL3.out;omega)) (fun hx=>by
  have a1:=H.out.row.row.lt
  have a2:=H.out.row.disk.lt
  rcases hx with x|x
  ·have x':w.heap.size=t.rb:=x
   omega
  ·have:=a2 w.heap.size x
   omega)) i).trans (k3 i)
 have hend4:=q6.row.room_eq.1
 have hrm4:(S.size:Int)≤roomR m':=by
  have a1:=HARG.out.2.2.2.1
  have a2:=HARG.out.2.2.2.2.2.1
  have a3:=HARG.out.2.2.2.2.2.2.1.2.1
  have a4:=HARG.out.2.2.2.2.2.2.2
  rw [hend4,List.length_append,a4,a2]
  omega
 have hA2:=c_append q1 q6 (by have:=HARG.out.1;omega) S HARG.out.2.2.1 hrm4 (by rw [q7,q8];have:=HARG.out.2.2.2.2.1;omega) (by have:=HARG.out.2.1;split<;>omega)
 rw [←HP.out] at hA2
 have HA2:=Lib.hid hA2
 have HK4:=Lib.hid (H3.out.step q1 q2)
 have HQ:=Lib.hid (And.intro q1 (And.intro q2 (And.intro q3 (And.intro q4 (And.intro q5 (And.intro q6 (And.intro q7 q8)))))))
 obtain ⟨d0,_,_,_,_,_,_⟩:=HK4.out.tape.cell
 clear q1 q2 q3 q4 q5 q6 q7 q8 k3 hend4 hrm4 hA2 c0
 go_wp2_with fail
 refine HA2.out.mono ?_
 rintro e w5 ⟨rfl,g2,m2,st2,q1,q2,q3,q4,q5,q6,q7,q8⟩
 have k5:∀ i,w5.cell? ⟨w.heap.size,i,none⟩=_:=fun i=>(cell_of_block (q2.chg.block _ (Nat.lt_of_lt_of_le HL2.out (by have:=HQ.out.2.1.chg.size;have:=HL3.out;omega)) (fun hx=>by
  have a1:=H.out.row.row.lt
  have a2:=H.out.row.disk.lt
  have a3:=HB3.out.size
  have a4:=HLT3.out
  rcases hx with x|x
  ·have x':w.heap.size=t.rb:=x
   omega
  ·rcases HQ.out.2.1.fp w.heap.size x with y|y
   ·have:=a2 w.heap.size y
    omega
   ·omega)) i).trans (k4 i)
 have HK5:=Lib.hid (HK4.out.step q1 q2)
 have HNT5:=Lib.hid (fun b=>HNT.out w5 g2.d (HK5.out.tape) (p:Int) b (by have:=HK5.out.chg.size;exact this) HPW.out)
 have HQ2:=Lib.hid (And.intro q1 (And.intro q2 (And.intro q3 (And.intro q4 (And.intro q5 (And.intro q6 (And.intro q7 q8)))))))
 clear q1 q2 q3 q4 q5 q6 q7 q8 k4 d0
 go_wp2_with fail
 refine (HNT5.out (S.size:Int)).mono ?_
 rintro e w6 hN
 obtain ⟨rfl,v',r1,r2,r3⟩:=app_one H.out HB3.out H3.out HQ2.out.1 (HQ.out.2.1.trans HQ2.out.2.1) hN
 have HR:=Lib.hid (And.intro r1 (And.intro r2 r3))
 clear hN r1 r2 r3 k5
 go_wp2_with fail
 go_ret2
 obtain ⟨p1,p2,p3,p4,p5,p6,p7,p8⟩:=HQ.out
 obtain ⟨q1,q2,q3,q4,q5,q6,q7,q8⟩:=HQ2.out
 rw [p4] at q3
 rw [List.append_assoc] at q6
 refine ⟨rfl,g2,m2,st2,v',_,HR.out.1,q2.d.trans p2.d,q4.trans p4,q5.trans p5,q6,?_,q8.trans p8,p3.trans q3,HR.out.2.1,HR.out.2.2⟩
 rw [q7,p7,List.length_append,HARG.out.2.2.2.2.2.2.2,Array.length_toList,Nat.add_assoc]
 rfl
theorem new_empty {n:Nat} {m:RowM} {c:Int} {st:St} (h:RowC n m st 1024 0 0 []) (hh:m.head=tH) (ho:Others tH (newSt c) st):st.fs=[]:=by
 cases hfs:st.fs with
 | nil=>rfl
 | cons p l=>
  exfalso
  have hp:p.1∈st.fs.map (·.1):=by rw [hfs];simp
  cases hx:Lib.hasPrefix p.1.data.toList tH.data.toList with
  | true=>
   obtain ⟨q,hq,_⟩:=(h.row.own p.1).1 ⟨hp,by rw [hh];exact hx⟩
   rw [plS_done _ _ _ (by omega)] at hq
   cases hq
  | false=>
   have h1:=ho p.1 hx
   have h2:(newSt c).find p.1=none:=rfl
   rw [h2] at h1
   unfold St.find at h1
   rw [hfs] at h1
   simp at h1
theorem new_size {n:Nat} {m:RowM} {c:Int} {st:St} (h:RowC n m st 1024 0 0 []) (hh:m.head=tH) (ho:Others tH (newSt c) st):st.size=0:=by
 rw [h.row.calm.good.sum,new_empty h hh ho]
 rfl
theorem putO_len {M:MsgM} {bs:List UInt8} (hk:M.kind≠0) (hp:putO M=some bs):3≤bs.length∧bs.length≤327:=by
 have h1:=put_get hp []
 unfold putO at hp
 rw [if_pos h1.2.2.2.2,if_pos hk] at hp
 have hp:=Option.some.inj hp
 have h2:=packB_le (right_bd h1.2.2.2.2 hk)
 have h3:(recB M).length=3+(Cr.sealB ⟨(packB M).toArray⟩).length:=frameB_length _ _
 rw [Cr.sealB_length,sizeL] at h3
 rw [←hp]
 rw [←hp] at h1
 omega
theorem refuse_plain {st:St} {p:Nat} {S:ByteArray} (h:st.size+S.size≤st.cap):refuseE st p ⟨#[]⟩ S=0:=by
 unfold refuseE
 have h0:(⟨#[]⟩:ByteArray).size=0:=rfl
 rw [if_neg (by omega),if_pos rfl]
theorem block_free {n:Nat} {m:RowM} {st:St} {i0 j:Nat} {all:List UInt8} (hk:RowC n m st 1024 i0 j all) (hh:m.head=tH) (i:Nat) (hi:j≤i) (hi2:1024*i≤99000000):blockE st (1024*i)=0:=by
 unfold blockE
 rw [if_neg (by omega)]
 have:memB (nameB tH (1024*i)) (namesS (nameB tH (1024*i)) st)=false:=by
  refine memB_no fun hm=>?_
  obtain ⟨p,hp,he⟩:=namesS_mem hm
  have h1:nameB tH (1024*i)∈st.fs.map (·.1):=by rw [←he];exact List.mem_map_of_mem (f:=fun p:ByteArray×FileM=>p.1) hp
  obtain ⟨q,hq,hqe⟩:=(hk.row.own (nameB tH (1024*i))).1 ⟨h1,by rw [hh];exact nameB_pre _ _⟩
  obtain ⟨i',h2,h3,rfl⟩:=(plS_iff (by decide) i0 j q hk.row.ij).1 hq
  rw [hh] at hqe
  have:=hk.row.room
  have h4:=nameB_inj tH (by omega) (by omega) hqe
  omega
 rw [this]
 rfl
theorem TAppTo.more {w0 w:World} {tb:Nat} {t:TapeM} {g:Gh} {st:St} {m:RowM} {n n' i0:Nat} {all add:List UInt8} {id size born:Int} {w':World} (h:TAppTo w0 w tb t g st m n i0 all add id size born w') (hn:n≤n'):TAppTo w0 w tb t g st m n' i0 all add id size born w':=by
 obtain ⟨g',m',st',v',j',h1,h2,h3,h4,h5,h6⟩:=h
 exact ⟨g',m',st',v',j',h1,h2,h3,h4,h5.more hn,h6⟩
set_option maxHeartbeats 4000000 in
set_option maxRecDepth 100000 in
theorem tread_ok {w0 w:World} {tb:Nat} {t:TapeM} {g:Gh} {st:St} {m:RowM} {n i0 j:Nat} {all:List UInt8} (h:TapeG w0 w tb t g st m) (hk:RowC n m st 1024 i0 j all) (id:Nat) (hid:id≤9000000000) (M:MsgM) (bs:List UInt8) (hp:putO M=some bs) (h1:1024*i0≤id) (h2:id+bs.length≤1024*i0+all.length) (h3:id % 1024+bs.length≤1024)
 (hb:(all.drop (id - 1024*i0)).take bs.length=bs) (hg:(getK t.M (id:Int)).getD 0=(bs.length:Int)) :
 Calls Tryz.prog 26 #[.pointer (some ⟨tb,0,none⟩),.int .i64 id] w (ReadTo M 0 w):=by
 obtain ⟨hgt,l3,l1100,_,_⟩:=put_get hp []
 rw [List.append_nil] at hgt
 obtain ⟨W0,hW0⟩:∃ W,W=w.alloc (.cells #[.int .i64 0,.int .i64 0,.int .i64 0,.int .i64 0,.int .i64 0,.int .i64 0,.string ⟨#[]⟩,.string ⟨#[]⟩,.string ⟨#[]⟩,.slice none 0 0] 36):=⟨_,rfl⟩
 have hb0:Box W0 w.heap.size zc:=hW0▸box_zero w
 have hl0:Below w.heap.size w W0:=hW0▸(Below.refl _ _).alloc (Nat.le_refl _) _
 have hT0:=h.new (Chg.of_below (S:=fun _=>False) hl0)
 have HB:=Lib.hid (tbegin_any hT0)
 have hS:=tsize_any hT0.tape (id:Int) (twf_nat id (by omega))
 obtain ⟨L,hL⟩:∃ L,L=bs.length:=⟨_,rfl⟩
 rw [hg,←hL] at hS
 have HS:=Lib.hid hS
 have hRd:=c_read_in hT0.row hk id bs.length (by omega) h1 h2 (by omega)
 rw [hb,←hL] at hRd
 have HR:=Lib.hid hRd
 have HGet:Hid (∀ W,Below W0.heap.size W0 W→Calls Tryz.prog 52 #[.pointer (some ⟨t.cb,0,none⟩),.string ⟨bs.toArray⟩] W (GetTo M L 0 W)):=Lib.hid (fun W hw=>by
  rw [hL]
  exact get_any t.cb ⟨bs.toArray⟩ M bs.length 0 W ((h.new (Chg.of_below (S:=fun _=>False) (hl0.trans (hw.mono hl0.size)))).tape.tab) (by rw [sizeL];omega) hgt)
 obtain ⟨c0,c1,c2,c3,c4,c5,z⟩:=hT0.tape.cell
 have HCL:Hid (∀ W,Below W0.heap.size W0 W→W.cell? ⟨tb,2,none⟩=some (.pointer (some ⟨t.cb,0,none⟩))):=Lib.hid (fun W hw=>(hw.cell (p:=⟨tb,2,none⟩) (World.block_lt_of_cell? _ _ c2)).trans c2)
 have HZ:=Lib.hid hb0
 have HBL:=Lib.hid hl0
 have HW0:=Lib.hid hW0
 obtain ⟨bg,hbg⟩:∃ bg:Nat,bg=1024*i0:=⟨_,rfl⟩
 rw [hk.row.beg,←hbg] at HB
 rw [←hbg] at h1
 have hLp:3≤L:=by omega
 clear c1 c3 c4 c5 z hb0 hl0 hW0 h hk hbg hS hg hRd hT0 hp hb hgt l3 l1100 h2 h3 hL
 go_enter Tryz.func26,Tryz.ntmps26
 go_upto_region 1 with fail
 rw [←HW0.out]
 have hzm:=HZ.out.cell
 have hzf:=HZ.out.free
 simp only [zc] at hzm
 go_wp2_with fail
 refine HB.out.mono ?_
 rintro e w1 ⟨rfl,rfl⟩
 go_wp2_with fail
 refine HS.out.mono ?_
 rintro e w1 ⟨rfl,rfl⟩
 go_wp2_with fail
 refine HR.out.mono ?_
 rintro e w1 ⟨rfl,hb1⟩
 have hcl:=HCL.out w1 hb1
 have HB1:=Lib.hid hb1
 have HZ1:=Lib.hid (HZ.out.below hb1 HZ.out.lt)
 clear hb1 hzm hzf c0 c2
 go_wp2_with fail
 refine (HGet.out w1 HB1.out).mono ?_
 rintro e w2 ⟨vk,rfl,hsv,hcv,hb2⟩
 obtain ⟨m1,m2,m3,m4,m5,m6,m7,m8,m9,m10⟩:=M
 obtain ⟨ka,kc,hvk⟩:=hsv.form
 dsimp only at hvk hsv
 obtain ⟨kl,hkl⟩:∃ l,l=m10.length:=⟨_,rfl⟩
 rw [←hkl] at hvk
 subst hvk
 have HKL:=Lib.hid hkl
 have HSV:=Lib.hid hsv
 have HCV:=Lib.hid hcv
 have HB2:=Lib.hid ((HBL.out.trans (HB1.out.mono HBL.out.size)).trans (hb2.mono (HBL.out.trans (HB1.out.mono HBL.out.size)).size))
 obtain ⟨W3,hW3⟩:∃ W,W=w2.alloc (.cells #[.int .i64 m1,.int .i64 m2,.int .i64 m3,.int .i64 m4,.int .i64 m5,.int .i64 m6,.string m7,.string m8,.string m9,.slice ka kl kc] 36):=⟨_,rfl⟩
 have hb3:Below w2.heap.size w2 W3:=hW3▸(Below.refl _ _).alloc (Nat.le_refl _) _
 have HZ2:Hid (Box W3 w.heap.size zc):=Lib.hid ((HZ1.out.below hb2 HZ1.out.lt).below hb3 (HZ1.out.below hb2 HZ1.out.lt).lt)
 have HX3:Hid (Box W3 w2.heap.size #[.int .i64 m1,.int .i64 m2,.int .i64 m3,.int .i64 m4,.int .i64 m5,.int .i64 m6,.string m7,.string m8,.string m9,.slice ka kl kc]):=Lib.hid (hW3▸Box.new w2 _)
 have HB3:Hid (Below w.heap.size w W3):=Lib.hid (HB2.out.trans (hb3.mono HB2.out.size))
 have HS3:Hid (Strs W3 w1.heap.size (.slice ka kl kc) m10):=Lib.hid (HSV.out.below hb3 (Nat.le_refl _))
 have HW3:=Lib.hid hW3
 clear hkl hsv hcv hb2 hW3 hb3 hcl HZ1
 unfold MsgM.val MsgM.cells
 dsimp only
 go_upto_region 12 with fail
 rw [←HW3.out]
 have hzm:=HZ2.out.cell
 have hzf:=HZ2.out.free
 have hxm:=HX3.out.cell
 simp only [zc] at hzm
 go_wp2_with fail
 have hbx:=box_set10 HZ2.out (.int .i64 m1) (.int .i64 m2) (.int .i64 m3) (.int .i64 m4) (.int .i64 m5) (.int .i64 m6) (.string m7) (.string m8) (.string m9) (.slice ka kl kc)
 have hbl:=below_set10 HB3.out (Nat.le_refl _) (.int .i64 m1) (.int .i64 m2) (.int .i64 m3) (.int .i64 m4) (.int .i64 m5) (.int .i64 m6) (.string m7) (.string m8) (.string m9) (.slice ka kl kc)
 have hst:=strs_set10 (P:=w.heap.size) HS3.out (Nat.lt_of_lt_of_le HZ.out.lt HB1.out.size) (.int .i64 m1) (.int .i64 m2) (.int .i64 m3) (.int .i64 m4) (.int .i64 m5) (.int .i64 m6) (.string m7) (.string m8) (.string m9) (.slice ka kl kc)
 unfold set10 at hbx hbl hst
 have hpm:=Box.cell hbx
 exact bodyPost_ret (v:=.tuple #[(MsgM.mk m1 m2 m3 m4 m5 m6 m7 m8 m9 m10).val (.slice ka kl kc),.int .i64 0]) (by simp [results,Tryz.results26,go_sem,hpm,zc,MsgM.val,MsgM.cells]) rfl ⟨.slice ka kl kc,rfl,strs_low hst (Nat.le_of_lt (Nat.lt_of_lt_of_le HZ.out.lt HB1.out.size)),HCV.out,hbl⟩
attribute [local go_sem] fr_opt
end Go.Proofs.YtajmeimjaapagaaGreatDoor
namespace Go.Proofs.YtajmeimjaapagaaGreatDoor
open Go.RowKit Go.Deep
def App7 (w0 w:World) (tb:Nat) (t:TapeM) (g:Gh) (st:St) (m:RowM) (n i0:Nat) (all:List UInt8) (M:MsgM) (vk:Value):Prop:=
 (∃ er:Int,er≠0∧(er=1∧(M.kind=0∨putO M=none)∨er=7∧st.cap<st.size+1351)∧Calls Tryz.prog 33 #[.pointer (some ⟨tb,0,none⟩),M.val vk] w (Adds (.tuple #[.int .i64 0,.int .i64 er]) w)) ∨
 (∃ F S:ByteArray,3≤S.size∧S.size≤327∧F.size≤1024∧(all.length+F.size+S.size) % 1024≤1021∧(∃ bs,putO M=some bs∧S=⟨bs.toArray⟩∧M.kind≠0∧F=⟨(tfill (roomT i0 all) bs.length).toArray⟩) ∧
  Calls Tryz.prog 33 #[.pointer (some ⟨tb,0,none⟩),M.val vk] w fun e w'=>e = .returned (.tuple #[.int .i64 ((1024*i0+all.length+F.size:Nat):Int),.int .i64 0])∧TAppTo w0 w tb t g st m (n+4) i0 all (F.data.toList ++ S.data.toList) ((1024*i0+all.length+F.size:Nat):Int) S.size M.born w')
theorem app_seven {w0 w:World} {tb:Nat} {t:TapeM} {g:Gh} {st:St} {m:RowM} {n i0 j:Nat} {all:List UInt8} (h:TapeG w0 w tb t g st m) (hk:RowC n m st 1024 i0 j all) (hh:m.head=tH) (M:MsgM) (vk:Value) (hks:Strs w 0 vk M.keys) (hcap:CapOk vk) (hs:Sound M)
 (hok:all.length % 1024≤1021) (hn:n≤900) (hal:1024*i0+all.length≤10000000) (hml:t.M.length≤1000000) (hil:t.ids.length≤1000000) :
 App7 w0 w tb t g st m n i0 all M vk:=by
 have e1:=hk.row.e1
 have e2:=hk.row.e2
 have g1:=hk.row.calm.good.size
 have g2:=hk.row.calm.good.cap
 have g3:=hk.row.calm.good.len
 have hr:roomT i0 all=1024 - all.length % 1024:=by unfold roomT;omega
 have hbad:laidF (roomT i0 all) M=(⟨#[]⟩,⟨#[]⟩,1)→(M.kind=0∨putO M=none)→App7 w0 w tb t g st m n i0 all M vk:=fun hl hx=>.inl ⟨1,by decide,.inl ⟨rfl,hx⟩,tapp_arg h hk.roomOk M vk hks hcap hs hl⟩
 by_cases hkd:M.kind=0
 ·exact hbad (by unfold laidF;rw [if_pos hkd]) (.inl hkd)
 cases hp:putO M with
 | none=>exact hbad (by unfold laidF;rw [if_neg hkd,hp]) (.inr hp)
 | some bs=>
  have hl:laidF (roomT i0 all) M=(⟨(tfill (roomT i0 all) bs.length).toArray⟩,⟨bs.toArray⟩,0):=by unfold laidF;rw [if_neg hkd,hp]
  obtain ⟨l3,l327⟩:=putO_len hkd hp
  have hS:(⟨bs.toArray⟩:ByteArray).size=bs.length:=sizeL bs
  by_cases hf:roomT i0 all=bs.length∨bs.length+3≤roomT i0 all
  ·have ht:tfill (roomT i0 all) bs.length=[]:=by unfold tfill;rw [if_pos hf]
   have h0:(⟨([]:List UInt8).toArray⟩:ByteArray).size=0:=rfl
   rw [ht] at hl
   by_cases hroom:st.cap<st.size+bs.length
   ·refine .inl ⟨7,by decide,.inr ⟨rfl,by omega⟩,tapp_refused h hk.roomOk M vk hks hcap hs hl hk.row.calm.down g1 g2 (by omega) (1024*i0+all.length) hk.row.end_ (by omega) (V:=7) ?_ (by decide)⟩
    unfold refuseE
    rw [if_pos (by rw [h0,hS];omega)]
   ·have hA:=tapp_plain h hk M vk hks hcap hs (S:=⟨bs.toArray⟩) hl g1 g2 (by omega) (refuse_plain (by rw [hS];omega)) hn (by omega) (by rw [hS];omega) (by rw [hS];rcases hf with x|x<;>omega) hml hil
    refine .inr ⟨⟨(tfill (roomT i0 all) bs.length).toArray⟩,⟨bs.toArray⟩,by rw [hS];omega,by rw [hS];omega,by rw [ht,h0];omega,by rw [ht,h0,hS];rcases hf with x|x<;>omega,⟨bs,hp,rfl,hkd,rfl⟩,?_⟩
    rw [ht,h0,Nat.add_zero]
    exact hA.mono fun e w' ⟨x,y⟩=>⟨x,y.more (by omega)⟩
  ·have hf2:¬ roomT i0 all=bs.length∧¬ bs.length+3≤roomT i0 all:=⟨fun x=>hf (.inl x),fun x=>hf (.inr x)⟩
   have ht:tfill (roomT i0 all) bs.length=fillB (roomT i0 all):=by unfold tfill;rw [if_neg hf,if_pos (by omega)]
   have hF:(⟨(tfill (roomT i0 all) bs.length).toArray⟩:ByteArray).size=roomT i0 all:=by rw [sizeL,ht,fillB_length _ (by omega)]
   by_cases hroom:st.cap<st.size+(roomT i0 all+bs.length)
   ·refine .inl ⟨7,by decide,.inr ⟨rfl,by omega⟩,tapp_refused h hk.roomOk M vk hks hcap hs hl hk.row.calm.down g1 g2 (by omega) (1024*i0+all.length) hk.row.end_ (by omega) (V:=7) ?_ (by decide)⟩
    unfold refuseE
    rw [if_pos (by rw [hF,hS];omega)]
   ·have hseg:1024*i0+all.length+roomT i0 all=1024*(i0+all.length / 1024+1):=by rw [hr];omega
    have htt:=hk.tight
    have hjj:j≤i0+all.length / 1024+1:=by
     by_cases hx:i0+1<j
     ·have:=htt hx;omega
     ·omega
    have hrf:refuseE st (1024*i0+all.length) ⟨(tfill (roomT i0 all) bs.length).toArray⟩ ⟨bs.toArray⟩=0:=by
     unfold refuseE
     rw [if_neg (by rw [hF,hS];omega)]
     split
     ·rfl
     ·rw [hF,hseg]
      exact block_free hk hh _ hjj (by omega)
    have hA:=tapp_fill h hk M vk hks hcap hs hl hF g1 g2 (by omega) hrf hn (by omega) (by rw [hS];omega) (by rw [hS];omega) hml hil
    have hsum:1024*i0+(all ++ (⟨(tfill (roomT i0 all) bs.length).toArray⟩:ByteArray).data.toList).length=1024*i0+all.length+(⟨(tfill (roomT i0 all) bs.length).toArray⟩:ByteArray).size:=by
     rw [List.length_append,size_toList];omega
    rw [hsum] at hA
    exact .inr ⟨⟨(tfill (roomT i0 all) bs.length).toArray⟩,⟨bs.toArray⟩,by rw [hS];omega,by rw [hS];omega,by rw [hF,hr];omega,by rw [hS,hF];omega,⟨bs,hp,rfl,hkd,rfl⟩,hA⟩
end Go.Proofs.YtajmeimjaapagaaGreatDoor
