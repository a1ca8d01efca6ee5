/- A part. -/
import Derived.Test.YtnemlgfldfedpaaGreatDoorTcr44
set_option linter.unusedVariables false
set_option linter.unusedSimpArgs false
namespace Go.Proofs.YtnemlgfldfedpaaGreatDoor
open Go.RowKit Go.Deep
theorem ints_form {w:World} {v:Value} {zs:List Int} (h:Ints w v zs):∃ a cap,v = .slice a zs.length cap:=by
 obtain ⟨a,cap,e,_⟩:=h
 exact ⟨a,cap,e⟩
theorem ints_cell {w:World} {a:Option Addr} {n cap k:Nat} {zs:List Int} (h:Ints w (.slice a n cap) zs) (hk:k<zs.length):∃ b o,a=some ⟨b,o,none⟩∧w.cell? ⟨b,o+k,none⟩=some (.int .i64 (zs.getD k 0)):=by
 obtain ⟨a',cap',e,h⟩:=h
 cases e
 rcases h with h|⟨b,o,e,h⟩
 ·rw [h] at hk;simp at hk
 ·exact ⟨b,o,e,h k hk⟩
theorem take_snoc_int (ts:List Int) {k:Nat} (h:k<ts.length):ts.take (k+1)=ts.take k ++ [ts.getD k 0]:=by
 rw [List.take_add_one,List.getElem?_eq_getElem h,List.getD_eq_getElem?_getD,List.getElem?_eq_getElem h]
 rfl
set_option maxHeartbeats 400000 in
theorem ints_any (v u:Value) (ts us:List Int) (w:World) (hv:Ints w v ts) (hu:Ints w u us) (hl:ts.length≤1000000):Calls Tryz.prog 17 #[v,u] w fun e w'=>e = .returned (.bool (decide (ts=us)))∧∃ k,w'=w.drewN k:=by
 have HV:=Lib.hid hv
 have HU:=Lib.hid hu
 obtain ⟨a,cap,rfl⟩:=ints_form hv
 obtain ⟨c,cap2,rfl⟩:=ints_form hu
 clear hv hu
 by_cases hlen:ts.length=us.length
 ·have hb:((ts.length:Int) == us.length)=true:=by simp [hlen]
  have hnb:((ts.length:Int) != us.length)=false:=by simp [hlen]
  have HLEN:=Lib.hid hlen
  clear hlen
  go_enter Tryz.func17,Tryz.ntmps17
  go_wp2_with fail
  go_loopw [5] (fun i wr=>∃ k:Nat,k≤ts.length∧i = .int .i64 k∧ts.take k=us.take k∧∃ d,wr=w.drewN d) (fun i _=>ts.length - (intOf i).toNat)
  case atStart=>exact ⟨0,Nat.zero_le _,rfl,rfl,0,rfl⟩
  case round=>
   obtain ⟨k,hk,rfl,heq,d,rfl⟩:=hrel
   have HEQ:=Lib.hid heq
   clear heq
   by_cases hlt:k<ts.length
   ·obtain ⟨b,o,rfl,hck⟩:=ints_cell HV.out hlt
    obtain ⟨b2,o2,rfl,hck2⟩:=ints_cell (k:=k) HU.out (by rw [←HLEN.out];exact hlt)
    have hlt2:k<us.length:=by rw [←HLEN.out];exact hlt
    obtain ⟨t,ht⟩:∃ t,t=ts.getD k 0:=⟨_,rfl⟩
    obtain ⟨u,hu⟩:∃ t,t=us.getD k 0:=⟨_,rfl⟩
    rw [←ht] at hck
    rw [←hu] at hck2
    have HT:=Lib.hid ht
    have HUU:=Lib.hid hu
    clear ht hu
    by_cases htu:t=u
    ·subst htu
     go_wp2_with fail
     go_quiet (fail)
     go_wp2_with fail
     refine ⟨⟨k+1,by omega,by go_num,?_,_,rfl⟩,by simp [intOf];omega⟩
     rw [take_snoc_int ts hlt,take_snoc_int us hlt2,HEQ.out,←HT.out,←HUU.out]
    ·have HNE:Hid (¬ ts=us):=Lib.hid fun h=>htu (by rw [HT.out,HUU.out,h])
     have h1:(t == u)=false:=by simpa using htu
     have h2:(t != u)=true:=by simpa using htu
     clear htu
     go_wp2_with fail
     go_quiet (fail)
     go_wp2_with fail
     go_ret
     exact ⟨by rw [decide_eq_false HNE.out];rfl,d+_,drewN_add _ _ _⟩
   ·obtain rfl:k=ts.length:=by omega
    have h:ts=us:=by
     have h1:=HEQ.out
     rwa [List.take_of_length_le (Nat.le_refl _),List.take_of_length_le (by rw [HLEN.out];exact Nat.le_refl _)] at h1
    have HD:=Lib.hid (decide_eq_true h)
    clear h
    go_wp2_with fail
    go_ret
    exact ⟨by rw [HD.out];rfl,_,rfl⟩
 ·have HD:=Lib.hid (decide_eq_false (show ¬ ts=us from fun h=>hlen (by rw [h])))
  have hb:((ts.length:Int) == us.length)=false:=by simpa using (show ¬ (ts.length:Int)=us.length by omega)
  have hnb:((ts.length:Int) != us.length)=true:=by simpa using (show ¬ (ts.length:Int)=us.length by omega)
  clear hlen
  go_enter Tryz.func17,Tryz.ntmps17
  go_wp2_with fail
  go_ret
  exact ⟨by rw [HD.out];rfl,0,rfl⟩
structure RefC (w:World) (rb:Nat) (B:ByteArray) (begin:Int) (vI vL:Value) (ids:List Int):Prop where
 at_:w.heap[rb]? = some (.cells #[.string B,.int .i64 begin,vI,vL] 42 (0,0))
 ids:Ints w vI ids
theorem RefC.cell {w:World} {rb:Nat} {B:ByteArray} {begin:Int} {vI vL:Value} {ids:List Int} (h:RefC w rb B begin vI vL ids):w.cell? ⟨rb,0,none⟩=some (.string B)∧w.cell? ⟨rb,1,none⟩=some (.int .i64 begin)∧w.cell? ⟨rb,2,none⟩=some vI∧w.cell? ⟨rb,3,none⟩=some vL∧∀ i,w.frozen? ⟨rb,i,none⟩=false:=by
 have h0:=h.at_
 refine ⟨?_,?_,?_,?_,fun i=>?_⟩<;>simp [World.cell?,World.frozen?,h0]
theorem ints_new {w w':World} {v:Value} {zs:List Int} (h:Ints w v zs) (hc:Chg (fun _=>False) w w'):Ints w' v zs:=by
 obtain ⟨a,cap,e,h⟩:=h
 refine ⟨a,cap,e,?_⟩
 rcases h with h|⟨b,o,e2,h⟩
 ·exact .inl h
 ·exact .inr ⟨b,o,e2,fun j hj=>hc.cell (h j hj) (fun x=>x)⟩
theorem RefC.new {w w':World} {rb:Nat} {B:ByteArray} {begin:Int} {vI vL:Value} {ids:List Int} (h:RefC w rb B begin vI vL ids) (hc:Chg (fun _=>False) w w'):RefC w' rb B begin vI vL ids:=⟨hc.heap h.at_ (fun x=>x),ints_new h.ids hc⟩
attribute [local go_sem] fr_opt
def NoW (st:St):Prop:=∀ p∈st.fs,p.2.writes=[]
theorem noW_delete {st:St} (h:NoW st) (ts:List ByteArray):NoW (deleteAll st ts):=fun p hp=>h p (deleteAll_sub ts st p hp)
theorem noW_set {st st':St} {nm:ByteArray} {f:FileM} (h:NoW st) (hf:f.writes=[]) (he:st'.fs=setF st.fs nm f):NoW st':=fun p hp=>by
 rw [he] at hp
 rcases mem_setF hp with h1|h1
 ·exact h p h1
 ·rw [h1];exact hf
theorem noW_burn {st:St} (h:NoW st):NoW (burnS st):=fun p hp=>h p (by rw [←burnS_fs st];exact hp)
theorem noW_cut {st:St} (h:NoW st) (nm:ByteArray) (k:Int):NoW (cutS st nm k):=by
 unfold cutS
 split
 ·exact h
 ·split
  ·exact h
  ·split
   ·exact h
   ·split
    ·rename_i f hf _ _
     exact noW_set (st:=burnS st) (nm:=nm) (f:=cutF f k.toNat) (noW_burn h) rfl (by rw [burnS_fs])
    ·exact noW_burn h
theorem noW_sync1 {st:St} (h:NoW st) (nm:ByteArray):NoW (sync1 st nm):=by
 unfold sync1
 split
 ·exact h
 ·rename_i f hf
  exact noW_set (nm:=nm) (f:=syncF f) h rfl rfl
theorem noW_sync {st:St} (h:NoW st) (ts:List ByteArray):NoW (syncAll st ts):=by
 unfold syncAll
 induction ts generalizing st with
 | nil=>exact h
 | cons t ts ih=>exact ih (noW_sync1 h t)
theorem noW_lose (f:FileM):(loseF f).writes=[]:=by
 unfold loseF
 split
 ·assumption
 ·rfl
theorem noW_crash (st:St) (sk:List Sk):NoW (crashS st sk):=fun p hp=>by
 have hp:p∈sk.map fun p=>(p.1,loseF p.2.2):=hp
 obtain ⟨q,_,rfl⟩:=List.mem_map.1 hp
 exact noW_lose _
theorem size_delete:∀ (ts:List ByteArray) (st:St),(deleteAll st ts).size≤st.size
 | [],_=>Nat.le_refl _
 | t :: ts,st=>Nat.le_trans (size_delete ts (removeS st t)) (Nat.sub_le _ _)
theorem size_cut (st:St) (nm:ByteArray) (k:Int):(cutS st nm k).size≤st.size:=by
 have hb:(burnS st).size=st.size:=by unfold burnS;split<;>(try split)<;>rfl
 unfold cutS
 split
 ·exact Nat.le_refl _
 ·split
  ·exact Nat.le_refl _
  ·split
   ·exact Nat.le_refl _
   ·split
    ·exact Nat.sub_le _ _
    ·rw [hb];exact Nat.le_refl _
def Less (st st':St):Prop:=(NoW st→NoW st')∧st'.size≤st.size
theorem Less.trans {a b c:St} (h:Less a b) (k:Less b c):Less a c:=⟨fun x=>k.1 (h.1 x),Nat.le_trans k.2 h.2⟩
theorem less_delete (st:St) (ts:List ByteArray):Less st (deleteAll st ts):=⟨fun h=>noW_delete h ts,size_delete ts st⟩
theorem less_cut (st:St) (nm:ByteArray) (k:Int):Less st (cutS st nm k):=⟨fun h=>noW_cut h nm k,size_cut st nm k⟩
theorem less_sync (st:St) (ts:List ByteArray):Less st (syncAll st ts):=⟨fun h=>noW_sync h ts,Nat.le_of_eq (syncAll_keeps st ts).2.2.2⟩
def CToW (w0 w:World) (b:Nat) (g:Gh) (st:St) (H:ByteArray) (n z i0 j:Nat) (all:List UInt8) (sy:Int) (w':World):Prop:=
 ∃ g' m' st',RowG w0 w' b g' st' m'∧RowTo w b g g' w'∧Others H st st'∧m'.head=H∧m'.synced=sy∧RowC n m' st' z i0 j all∧st'.cap=st.cap∧Less st st'
def CToS (w0 w:World) (b:Nat) (g:Gh) (st:St) (m:RowM) (n z i0 j:Nat) (all:List UInt8) (sy:Int) (w':World):Prop:=
 ∃ g' m' st',RowG w0 w' b g' st' m'∧RowTo w b g g' w'∧Others m.head st st'∧m'.head=m.head∧m'.synced=sy∧RowC n m' st' z i0 j all∧st'.cap=st.cap∧Less st st'∧(m'=syncedM m∧st'=syncAll st (rowNames m m.touched.toNat))∧m'.touched=m'.next
theorem c_sync_w {w0 w:World} {b:Nat} {g:Gh} {st:St} {m:RowM} {n z i0 j:Nat} {all:List UInt8} (hg:RowG w0 w b g st m) (h:RowC n m st z i0 j all) (hn:n≤1048576) :
 Calls Tryz.prog 28 #[.pointer (some ⟨b,0,none⟩)] w fun e w'=>e = .returned (.int .i64 0)∧CToS w0 w b g st m n z i0 j all ((z*i0+all.length:Nat):Int) w':=by
 obtain ⟨t,t1,t2,t3⟩:=h.row.t0
 have h1:=h.row.size
 have h4:=h.row.next
 have h5:=h.row.room
 have h6:=h.row.z1
 have h7:=h.row.z2
 refine (rsync_any w0 b g st m n w hg h.row.calm hn (by omega) (by omega) (by omega) (by omega) (by have:=h.row.head;omega) (by omega) (by omega) (h.row.found _ ⟨t,by omega,t2⟩)).mono ?_
 rintro e w' ⟨rfl,g',hg',hto⟩
 exact ⟨rfl,g',_,_,hg',hto,Others.sync,rfl,h.row.end_,h.sync _,(syncAll_keeps _ _).2.2.1,less_sync _ _,⟨rfl,rfl⟩,rfl⟩
def TGToW (w0:World) (tb:Nat) (t:TapeM) (d:Nat) (n z i0 j:Nat) (all:List UInt8) (m:RowM) (sy:Int) (st:St) (S:Nat→Prop) (w:World) (e:Ending) (w':World):Prop:=e = .returned (.int .i64 0)∧∃ g' m' st',TapeG w0 w' tb t g' st' m'∧g'.d=d∧m'.head=m.head∧m'.synced=sy∧RowC n m' st' z i0 j all∧st'.cap=st.cap∧Chg S w w'∧(∀ q∈g'.fp,S q∨w.heap.size≤q)∧Others m.head st st'∧Less st st'∧(m'=syncedM m∧st'=syncAll st (rowNames m m.touched.toNat))∧m'.touched=m'.next
theorem tsync_w {w0 w:World} {tb:Nat} {t:TapeM} {g:Gh} {st:St} {m:RowM} {n z i0 j:Nat} {all:List UInt8} (h:TapeG w0 w tb t g st m) (hk:RowC n m st z i0 j all) (hn:n≤1048576) :
 Calls Tryz.prog 8 #[.pointer (some ⟨tb,0,none⟩)] w (TGToW w0 tb t g.d n z i0 j all m ((z*i0+all.length:Nat):Int) st (fun q=>q=t.rb∨q∈g.fp) w):=by
 have HR:=Lib.hid (trow_any h.tape)
 have HB:=Lib.hid (c_sync_w h.row hk hn)
 have HG:=Lib.hid h
 clear h hk
 go_enter Tryz.func8,Tryz.ntmps8
 go_wp2_with fail
 refine HR.out.mono ?_
 rintro e w1 ⟨rfl,rfl⟩
 go_wp2_with fail
 refine HB.out.mono ?_
 rintro e w1 ⟨rfl,g',m',st',hg',hto,hoth,hh,hs,hk',hcp,hx1,hx2,hx3⟩
 have HX:=Lib.hid (And.intro hx1 (And.intro hx2 hx3))
 clear hx1 hx2 hx3
 have HT:=Lib.hid (HG.out.step hg' hto)
 have HD:=Lib.hid hto.d
 have HK:=Lib.hid hk'
 have HH:=Lib.hid (And.intro hh hs)
 have HCG:=Lib.hid (And.intro hcp hto)
 have HOT:=Lib.hid hoth
 clear hg' hto hh hs hk' hcp hoth
 go_wp2_with fail
 go_ret
 exact ⟨rfl,g',m',st',HT.out,HD.out,HH.out.1,HH.out.2,HK.out,HCG.out.1,HCG.out.2.chg,fun q hq=>(HCG.out.2.fp q hq).imp .inr (fun x=>x),HOT.out,HX.out⟩
theorem c_cut_w {w0 w:World} {b:Nat} {g:Gh} {st:St} {m:RowM} {n z i0 j:Nat} {all:List UInt8} (hg:RowG w0 w b g st m) (h:RowL n m st z i0 j all) (hn:n≤1048576) (a:Nat) (ha0:z*i0≤a) (ha1:a≤z*i0+all.length) (hsy:m.synced≤m.end_) :
 Calls Tryz.prog 26 #[.pointer (some ⟨b,0,none⟩),.int .i64 (a:Int)] w fun e w'=>e = .returned (.int .i64 0)∧∃ j',(i0<j→i0<j')∧(i0=j→i0=j')∧CToW w0 w b g st m.head n z i0 j' (all.take (a - z*i0)) (min m.synced (a:Int)) w':=by
 have h1:=h.row.size
 have h2:=h.row.beg
 have h3:=h.row.end_
 have h4:=h.row.next
 have h5:=h.row.room
 have h6:=h.row.z1
 have h7:=h.row.z2
 have h8:=h.row.e1
 have h10:=h.row.ij
 have hle0:z*i0≤z*j:=Nat.mul_le_mul_left z h10
 have hh:=h.row.head
 obtain ⟨j1,e1,hk1,he0,he1,hae,hend,hhd,hin,hj1,hj2,hsyn,hfd,hot⟩:=h.leave a ha0 ha1
 have hL:∀ W,RowG w0 W b g st m→Calls Tryz.prog 53 #[.pointer (some ⟨b,0,none⟩),.int .i64 (a:Int)] W fun e w'=>e = .returned (.int .i64 0)∧∃ g',RowG w0 w' b g' (leaveS m st a) (leaveM m a)∧RowTo W b g g' w':=fun W hW=>
  leave_any w0 b g st m a n W hW h.row.calm hn (by omega) (by omega) (by omega) (by omega) (by omega) (by omega) (by omega) (by omega) hfd
 by_cases hlt:a<e1
 ·obtain ⟨hj3,hz1,hz2⟩:=hin hlt
  obtain ⟨q,rfl⟩:∃ q,j1=q+1:=⟨j1 - 1,by omega⟩
  rw [show q+1 - 1=q by omega] at hz1 hz2
  have hl1:(all.take (e1 - z*i0)).length=e1 - z*i0:=by rw [List.length_take];omega
  obtain ⟨hk2,f,hf,hfl⟩:=hk1.cut a hz1 (by rw [hl1];omega) (by omega) hz2
  have hsq:z*(q+1)=z*q+z:=Nat.mul_succ z q
  have g1:=hk1.row.size
  have g4:=hk1.row.next
  have g5:=hk1.row.room
  have hlq:(leaveM m a).next - (leaveM m a).size=((z*q:Nat):Int):=by omega
  have hlqn:((leaveM m a).next - (leaveM m a).size).toNat=z*q:=by omega
  have hc:=cut_mid w0 b g st (leaveS m st a) m (leaveM m a) a n f w hg (by omega) (by omega) (by omega) hL (by omega) hk1.row.calm hn (by omega) (by omega) (by rw [hhd];omega) (by omega) (by omega) (by omega) (by rw [hlqn];exact hf) (by rw [hlq];exact hfl)
  refine hc.mono ?_
  rintro e w' ⟨rfl,g',hg',hto⟩
  rw [hlqn,hlq] at hg'
  have htk:(all.take (e1 - z*i0)).take (a - z*i0)=all.take (a - z*i0):=by rw [List.take_take];congr 1;omega
  rw [htk] at hk2
  refine ⟨rfl,q+1,hj1,hj2,g',_,_,hg',hto,hot.trans ?_,hhd,?_,hk2,?_,(less_delete _ _).trans (less_cut _ _ _)⟩
  ·rw [hhd];exact Others.cut
  ·show min (leaveM m a).synced (a:Int)=_
   rcases hsyn with ⟨_,hx⟩|hx
   ·rw [hx]
   ·rw [hx];omega
  ·have hcp:(leaveS m st a).cap=st.cap:=(deleteAll_keeps _ _).2.2
   have hbc:∀ s:St,(burnS s).cap=s.cap:=fun s=>by unfold burnS;repeat' (first|rfl|split)
   unfold cutS
   repeat' (first|exact hcp|exact (hbc _).trans hcp|split)
 ·have hae2:a=e1:=by omega
  subst hae2
  have hc:=cut_end w0 b g st (leaveS m st a) m (leaveM m a) a w hg (by omega) (by omega) hL (by omega)
  refine hc.mono ?_
  rintro e w' ⟨rfl,g',hg',hto⟩
  refine ⟨rfl,j1,hj1,hj2,g',_,_,hg',hto,hot,hhd,?_,hk1,(deleteAll_keeps _ _).2.2,less_delete _ _⟩
  rcases hsyn with ⟨hx,hy⟩|hx
  ·rw [hy];omega
  ·rw [hx]
def TOpenW (w0 w:World) (g:Gh) (st:St) (n i0 j:Nat) (all:List UInt8) (e:Ending) (w':World):Prop:=
 ∃ tb rb cb mb v' g' m' st' j',e = .returned (.tuple #[.pointer (some ⟨tb,0,none⟩),.int .i64 0])∧w.heap.size≤tb∧TapeG w0 w' tb ((tape0 rb cb mb).noteL v' (tgathF i0 all (all.length+1) 0).1) g' st' m'∧g'.d=g.d∧m'.head=tH∧m'.synced=((1024*i0+(all.take (tgathF i0 all (all.length+1) 0).2).length:Nat):Int)∧(i0<j→i0<j')∧(i0=j→i0=j')∧RowC n m' st' 1024 i0 j' (all.take (tgathF i0 all (all.length+1) 0).2)∧st'.cap=st.cap ∧
  Chg (fun q=>q∈g.fp) w w'∧Others tH st st'∧(∀ q∈((tape0 rb cb mb).noteL v' (tgathF i0 all (all.length+1) 0).1).foot tb,w.heap.size≤q)∧w.heap.size≤rb∧(∀ q∈g'.fp,q∈g.fp∨w.heap.size≤q)∧Less st st'∧m'.touched=m'.next
set_option maxHeartbeats 4000000 in
set_option maxRecDepth 100000 in
theorem topen_w {w0 w:World} {d:Nat} {g:Gh} {st st0:St} {n i0 j:Nat} {all:List UInt8} (hd:DiskG w0 w d g st0) (hS:Calls Tryz.prog 23 #[.pointer (some ⟨d,0,none⟩),.string tH,.int .i64 ((1024:Nat):Int)] w (COpenL w0 w g st tH n 1024 i0 j all)) (hn:n≤1000) (hal:1024*i0+all.length≤100000000) (hal2:all.length≤200000) :
 Calls Tryz.prog 7 #[.pointer (some ⟨d,0,none⟩)] w (TOpenW w0 w g st n i0 j all):=by
 have hql:=(tgath_len (i0:=i0) (f:=all.length+1) (all:=all) (Nat.zero_le _)).2
 obtain ⟨N,hN⟩:∃ N,N=(tgathF i0 all (all.length+1) 0).1:=⟨_,rfl⟩
 obtain ⟨qq,hqq⟩:∃ q,q=(tgathF i0 all (all.length+1) 0).2:=⟨_,rfl⟩
 obtain ⟨Q,hQ⟩:∃ q,q=1024*i0+qq:=⟨_,rfl⟩
 rw [←hqq] at hql
 have HN:=Lib.hid hN
 have HQQ:=Lib.hid hqq
 have HQB:=Lib.hid hQ
 have HQL:=Lib.hid hql
 clear hN hqq hQ hql
 unfold tH at hS
 have HS:=Lib.hid hS
 have HD:=Lib.hid hd
 have HAL:=Lib.hid hal
 have HAL2:=Lib.hid hal2
 clear hS hd hal hal2
 go_enter Tryz.func7,Tryz.ntmps7
 go_wp2_with fail
 refine HS.out.mono ?_
 rintro e w1 ⟨rb,rfl,hrb,g1,m1,q1,q2,q3,q4,q5⟩
 have hC:=Cr.new_any w1
 have HC:=Lib.hid hC
 have HQ:=Lib.hid (And.intro q1 (And.intro q2 (And.intro q3 (And.intro q4 q5))))
 have HRB:=Lib.hid hrb
 have hmm:=@run_makeMap Tryz.prog
 clear q1 q2 q3 q4 q5 hrb hC
 go_wp2_with fail
 refine HC.out.mono ?_
 rintro e w2 ⟨rfl,htb,hb2⟩
 obtain ⟨t0,ht0⟩:∃ t0:TapeM,t0=⟨rb,w1.heap.size,w2.heap.size,.slice none 0 0,[],0,[]⟩:=⟨_,rfl⟩
 obtain ⟨W3,hW3⟩:∃ W,W=(w2.alloc (.map #[] 0)).alloc (.cells (t0.cells d) 70):=⟨_,rfl⟩
 have hb3:Below w1.heap.size w1 W3:=hW3▸(hb2.alloc hb2.size _).alloc (Nat.le_trans hb2.size (by simp)) _
 have h23:Below w2.heap.size w2 W3:=hW3▸((Below.refl _ _).alloc (Nat.le_refl _) _).alloc (by simp) _
 have hg3:TapeG w0 W3 (w2.heap.size+1) t0 g1 st m1:=by
  obtain ⟨q1,q2,q3,q4,q5⟩:=HQ.out
  have hl1:=q1.chg.size
  have hlt:w1.heap.size<w2.heap.size:=htb.lt
  refine ⟨by rw [ht0];exact q1.new (Chg.of_below hb3),⟨?_,?_,?_,?_,?_,?_⟩,fun q hq=>?_⟩
  ·rw [hW3,q2.d,HD.out.d]
   have:=heap_alloc_new (w2.alloc (.map #[] 0)) (.cells (t0.cells d) 70 (0,0))
   rwa [World.size_alloc] at this
  ·rw [ht0]
   exact World.rowIs.of_block htb (h23.block _ htb.lt)
  ·rw [ht0]
   refine (MapK.made w2).heap ?_
   rw [hW3]
   exact Below.heap_alloc _ _ _ (by simp)
  ·rw [ht0]
   exact ownI_nil _ _
  ·rw [ht0]
   simp [TapeM.foot,Value.ownBlock]
   omega
  ·intro q hq
   rw [ht0] at hq
   simp [TapeM.foot,Value.ownBlock] at hq
   omega
  ·rw [ht0] at hq
   simp [TapeM.foot,Value.ownBlock] at hq
   have hr:=q1.row.lt
   refine ⟨?_,fun hx=>?_⟩
   ·rw [ht0]
    show q≠rb
    omega
   ·have:=q1.disk.lt q hx
    omega
 have hga:=tgather_any_l hg3 HQ.out.2.2.2.2 HAL.out HAL2.out (by rw [ht0];simp) (by rw [ht0];simp)
 unfold GatTo at hga
 rw [←HN.out,←HQQ.out,←HQB.out] at hga
 have HGA:=Lib.hid hga
 have HCU:Hid (∀ W4 v',TapeG w0 W4 (w2.heap.size+1) (t0.noteL v' N) g1 st m1→Calls Tryz.prog 26 #[.pointer (some ⟨rb,0,none⟩),.int .i64 (Q:Int)] W4 fun e w'=>e = .returned (.int .i64 0)∧∃ j',(i0<j→i0<j')∧(i0=j→i0=j')∧CToW w0 W4 t0.rb g1 st m1.head n 1024 i0 j' (all.take (Q - 1024*i0)) (min m1.synced (Q:Int)) w'):=Lib.hid (fun W4 v' hW4=>by
  have hq:=HQB.out
  have hl:=HQL.out
  have h0:t0.rb=rb:=by rw [ht0]
  have hsy:m1.synced=((1024*i0:Nat):Int):=HQ.out.2.2.2.1
  have hen:=HQ.out.2.2.2.2.row.end_
  rw [←h0]
  exact c_cut_w hW4.row HQ.out.2.2.2.2 (by omega) Q (by omega) (by omega) (by rw [hsy,hen];omega))
 have HG3:=Lib.hid hg3
 have HB3:=Lib.hid hb3
 have HT0:=Lib.hid ht0
 have HLT12:=Lib.hid (show w1.heap.size<w2.heap.size from htb.lt)
 rw [ht0] at hW3
 unfold TapeM.cells at hW3
 have HW3:=Lib.hid hW3
 clear hga hg3 hb3 ht0 hW3 h23 htb hb2
 go_upto_region 5 with fail
 rw [←HW3.out]
 clear hmm
 go_wp2_with fail
 refine HGA.out.mono ?_
 rintro e w3 ⟨rfl,v',hg4,hch4,hft4⟩
 obtain ⟨c0,_,_,_,_,_,_⟩:=hg4.tape.cell
 have hrb0:t0.rb=rb:=by rw [HT0.out]
 rw [show (t0.noteL v' N).rb=rb from hrb0] at c0
 have HG4:=Lib.hid (And.intro hg4 (And.intro hch4 hft4))
 clear hg4 hch4 hft4 hrb0
 go_wp2_with fail
 refine (HCU.out w3 v' HG4.out.1).mono ?_
 rintro e w4 ⟨rfl,j',hj1,hj2,g2,m2,st2,p1,p2,p3,p4,p5,p6,p7,p8⟩
 have hrb0:t0.rb=rb:=by rw [HT0.out]
 have hT4:=HG4.out.1.step p1 p2
 have HJ:=Lib.hid (And.intro hj1 hj2)
 have HSY:=Lib.hid (tsync_w hT4 p6 (by omega))
 have HP8:=Lib.hid p8
 have HP:=Lib.hid (And.intro p2 (And.intro p4 (And.intro p7 p3)))
 have HRB0:=Lib.hid hrb0
 clear hj1 hj2 p1 p2 p3 p4 p5 p6 p7 p8 hrb0 hT4 c0
 go_wp2_with fail
 refine HSY.out.mono ?_
 rintro e w5 ⟨rfl,g3,m3,st3,r1,r2,r3,r4,r5,r6,r7,r8,r9,r10,r11,r12⟩
 have HR:=Lib.hid (And.intro r1 (And.intro r2 (And.intro r3 (And.intro r4 (And.intro r5 (And.intro r6 r7))))))
 have HOT:=Lib.hid (And.intro HP.out.2.2.2 (And.intro r8 r9))
 have HW10:=Lib.hid (And.intro r10 r12)
 clear r10 r11 r12
 clear r1 r2 r3 r4 r5 r6 r7 r8 r9
 go_wp2_with fail
 go_ret2
 obtain ⟨r1,r2,r3,r4,r5,r6,r7⟩:=HR.out
 obtain ⟨p2,p4,p7,p3⟩:=HP.out
 obtain ⟨q1,q2,q3,q4,q5⟩:=HQ.out
 have s1:=q2.chg.size
 have s3:=HB3.out.size
 have e0:=HRB.out
 have e1:=HRB0.out
 have htl:w.heap.size≤w2.heap.size+1:=by
  have:=HG3.out.tape.lt _ (mem_foot_cb t0 _)
  have h5:=HG3.out.tape.apart
  have h6:=HG3.out.tape.low
  have h7:w1.heap.size<w2.heap.size:=by
   have:=HW3.out
   have hx:=HB3.out
   exact HLT12.out
  omega
 have hq:=HQB.out
 have htk:all.take (Q - 1024*i0)=all.take (tgathF i0 all (all.length+1) 0).2:=by rw [←HQQ.out];congr 1;omega
 rw [htk] at r4 r5
 have ht0:t0=tape0 rb w1.heap.size w2.heap.size:=HT0.out
 have hfr:∀ q∈t0.foot (w2.heap.size+1),w.heap.size≤q:=fun q hq=>by
  have h7:w1.heap.size<w2.heap.size:=HLT12.out
  rw [ht0] at hq
  simp [tape0,TapeM.foot,Value.ownBlock] at hq
  omega
 rw [HN.out,ht0] at r1
 have a2:Chg (fun q=>q∈g.fp) w W3:=q2.chg.trans (Chg.of_below (S:=fun _=>False) HB3.out) (fun _ _ x=>x.elim)
 have a4:Chg (fun q=>q∈g.fp) w w3:=a2.trans HG4.out.2.1 (fun i hi x=>by have:=hfr i x;omega)
 have s4:=a4.size
 have a3:Chg (fun q=>q∈g.fp) w w4:=a4.trans p2.chg (fun i hi x=>by
  rcases x with x|x
  ·omega
  ·rcases q2.fp i x with y|y
   ·exact y
   ·omega)
 refine ⟨_,rb,w1.heap.size,w2.heap.size,v',g3,m3,st3,j',rfl,htl,r1,r2.trans (p2.d.trans q2.d),r3.trans (p4.trans q3),r4,HJ.out.1,HJ.out.2,r5,r6.trans p7,?_,?_,fun q hq=>?_,e0,fun q hq=>?_,HP8.out.trans HW10.out.1,HW10.out.2⟩
 ·refine a3.trans r7 (fun i hi x=>?_)
  rcases x with x|x
  ·have:(t0.noteL v' N).rb=t0.rb:=rfl
   omega
  ·rcases p2.fp i x with y|y
   ·rcases q2.fp i y with z|z
    ·exact z
    ·omega
   ·omega
 ·have o1:=HOT.out.1
  have o2:=HOT.out.2.2
  rw [p4,q3] at o2
  rw [q3] at o1
  exact o1.trans o2
 ·have:=HG4.out.2.2 q (by rw [HN.out,ht0];exact hq)
  have s3:=HB3.out.size
  rcases this with x|x
  ·exact hfr q x
  ·omega
 ·have s3:=HB3.out.size
  have s4:=a4.size
  have s5:=a3.size
  rcases HOT.out.2.1 q hq with x|x
  ·rcases x with x|x
   ·have e9:(t0.noteL v' N).rb=t0.rb:=rfl
    right;omega
   ·rcases p2.fp q x with y|y
    ·rcases q2.fp q y with z|z
     ·exact .inl z
     ·right;omega
    ·right;omega
  ·right;omega
end Go.Proofs.YtnemlgfldfedpaaGreatDoor
namespace Go.Proofs.YtnemlgfldfedpaaGreatDoor
open Go.RowKit Go.Deep
theorem copenL {w0 w:World} {g:Gh} {st:St} {H:ByteArray} {n z i0 j:Nat} {all:List UInt8} {F:Nat} {args:Array Value} (h:Calls Tryz.prog F args w (COpen w0 w g st H n z i0 j all)):Calls Tryz.prog F args w (COpenL w0 w g st H n z i0 j all):=by
 refine h.mono ?_
 rintro e w' ⟨b,h1,h2,g',m',h3,h4,h5,h6,h7⟩
 exact ⟨b,h1,h2,g',m',h3,h4,h5,h6,⟨h7.row,h7.ch,h7.nm⟩⟩
def TOpIw (w0 w:World) (g:Gh) (st:St) (n i0 j:Nat) (l:List (MsgM×List UInt8)) (e:Ending) (w':World):Prop:=
 ∃ tb t g' m' st' j',e = .returned (.tuple #[.pointer (some ⟨tb,0,none⟩),.int .i64 0])∧w.heap.size≤tb∧TapeI w0 w' tb t g' st' m' n i0 j' l∧g'.d=g.d∧m'.synced=((1024*i0+(bytesI l).length:Nat):Int)∧(i0<j→i0<j')∧(i0=j→i0=j')∧st'.cap=st.cap∧Chg (fun q=>q∈g.fp) w w'∧Others tH st st'∧(∀ q∈t.foot tb,w.heap.size≤q)∧w.heap.size≤t.rb∧(∀ q∈g'.fp,q∈g.fp∨w.heap.size≤q)∧Less st st'∧m'.touched=m'.next
theorem topen_laid_w {w0 w:World} {d:Nat} {g:Gh} {st:St} {m:RowM} {n i0 j:Nat} {l:List (MsgM×List UInt8)} (hd:DiskG w0 w d g st) (ht:Tab10 w0) (hk:RowC n m st 1024 i0 j (bytesI l)) (hn:n≤1000) (hmh:m.head=tH) (hl:LaidAt 0 l) (hal:1024*i0+(bytesI l).length≤100000000) (hal2:(bytesI l).length≤200000) :
 Calls Tryz.prog 7 #[.pointer (some ⟨d,0,none⟩)] w (TOpIw w0 w g st n i0 j l):=by
 have hG:=gather_laid (i0:=i0) (all:=bytesI l) ((bytesI l).length+1) 0 l hl (fun _=>rfl) rfl (Nat.zero_le _) (by omega)
 have hS:=copenL (c_open hd ht hk (by omega))
 rw [hmh] at hS
 refine (topen_w hd hS hn hal hal2).mono ?_
 rintro e w' ⟨tb,rb,cb,mb,v',g',m',st',j',h1,h2,h3,h4,h5,h6,h7,h8,h9,h10,h11,h12,h13,h14,h15,h16,h17⟩
 rw [hG] at h3 h6 h9 h13
 dsimp only at h3 h6 h9 h13
 rw [List.take_length] at h6 h9
 rw [Nat.add_zero] at h3 h13
 have hla:LaidAt (1024*i0) l:=laidAt_mod (p:=0) (q:=1024*i0) (by omega) hl
 refine ⟨tb,_,g',m',st',j',h1,h2,⟨h3,h9,h5,hl,?_⟩,h4,h6,h7,h8,h10,h11,h12,h13,h14,h15,h16,h17⟩
 have:=TapeN.noteL (N:=[]) (notesI (1024*i0) l) (tapeN_new rb cb mb) v' (by rw [List.nil_append];exact ne_of_lt (notesI_sorted hla))
 rw [List.nil_append] at this
 exact this
theorem topen_torn_w {w0 w:World} {d:Nat} {g:Gh} {st:St} {n:Nat} {S:List (ItL×ItL×List UInt8)} (hd:DiskG w0 w d g st) (ht:Tab10 w0) (hc:Calm n st) (hn:n≤1000) (hS:∀ x∈S,x.2.2.length≤1024) (h0:0<numC S) (hj:1024*S.length≤150000)
 (hf:∀ i x,S[i]? = some x→∃ f,st.find (nameB tH (1024*i))=some f∧f.bytes=x.2.2)
 (hm:∀ nm,(nm∈st.fs.map (·.1)∧Lib.hasPrefix nm.data.toList tH.data.toList=true)↔∃ p∈plS (1024*S.length) 1024 0,nm=nameB tH p) (hnm:∀ p∈st.fs,p.1.size≤1048576) (hk:SegsK S) (hla:LaidAt 0 (itemsK S)) :
 ∃ LA LB,itemsK S=LA ++ LB∧(∀ LS,SyncK S LS→∃ r,LA=LS ++ r)∧Calls Tryz.prog 7 #[.pointer (some ⟨d,0,none⟩)] w (TOpIw w0 w g (openS st tH 1024) n 0 (numC S) LA):=by
 obtain ⟨LA,LB,q1,q2,q3,q4,q5⟩:=cut_found S hk
 refine ⟨LA,LB,q1,q5,?_⟩
 rw [q1] at hla
 have hl:=(laidAt_app.1 hla).1
 obtain ⟨_,_,k3⟩:=rowC_get S hS
 obtain ⟨x,k4,k5,_⟩:=k3 h0
 have hx:=hS x (List.mem_of_getElem? k4)
 have hnl:=numC_le S
 have hG:=gather_stop (i0:=0) (all:=rowC S) ((rowC S).length+1) 0 LA hl (fun _=>rfl) (by rw [List.drop_zero];exact q2) (by omega) (by omega) (by
  rcases q4 with e|⟨a,b,e1,e2,e3,e4⟩
  ·left;omega
  ·right;exact ⟨a,b,by omega,e2,e3,e4⟩)
 refine (topen_w hd (c_open_torn hd ht hc (by omega) hS h0 (by omega) hf hm hnm) hn (by omega) (by omega)).mono ?_
 rintro e w' ⟨tb,rb,cb,mb,v',g',m',st',j',h1,h2,h3,h4,h5,h6,h7,h8,h9,h10,h11,h12,h13,h14,h15,h16,h17⟩
 rw [hG] at h3 h6 h9 h13
 dsimp only at h3 h6 h9 h13
 rw [Nat.zero_add (bytesI LA).length,q2] at h6 h9
 rw [Nat.mul_zero,Nat.add_zero] at h3 h13
 refine ⟨tb,_,g',m',st',j',h1,h2,⟨h3,h9,h5,hl,?_⟩,h4,h6,h7,h8,h10,h11,h12,h13,h14,h15,h16,h17⟩
 have:=TapeN.noteL (N:=[]) (notesI 0 LA) (tapeN_new rb cb mb) v' (by rw [List.nil_append];exact ne_of_lt (notesI_sorted hl))
 rw [List.nil_append] at this
 exact this
end Go.Proofs.YtnemlgfldfedpaaGreatDoor
