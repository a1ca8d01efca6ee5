/- A part. -/
import Derived.Deep.RegionHeld3
import Derived.Test.YtajmeimjaapagaaGreatDoorDor50
set_option linter.unusedVariables false
set_option linter.unusedSimpArgs false
namespace Go.Proofs.YtajmeimjaapagaaGreatDoor
open Go.RowKit Go.Deep
attribute [local go_sem] fr_opt
set_option maxRecDepth 100000 in
theorem taking_any (b:Nat) (w:World):Calls Tryz.prog 150 #[.pointer (some ⟨b,0,none⟩)] w fun e w'=>
 e = .returned (.func (.func 191) #[] #[.pointer (some ⟨w.heap.size,0,none⟩),.pointer (some ⟨w.heap.size+1,0,none⟩)])∧w'=(w.alloc (.cells #[.pointer (some ⟨b,0,none⟩)] 96)).alloc (.cells #[.bool true] 4):=by
 go_enter Tryz.func150,Tryz.ntmps150
 go_wp2_with fail
 go_ret
 exact ⟨rfl,rfl⟩
def newRow (head:ByteArray) (size:Int):RowM:=⟨head,size,0,0,0,0,0⟩
end Go.Proofs.YtajmeimjaapagaaGreatDoor
namespace Go.Proofs.YtajmeimjaapagaaGreatDoor
open Go.RowKit Go.Deep
attribute [local go_sem] fr_opt
structure Calm (n:Nat) (st:St):Prop where
 good:Good n st
 lit:st.lit=false
 down:st.down=false
theorem Calm.burnE {n:Nat} {st:St} (h:Calm n st):burnE st=0:=by unfold Go.Proofs.YtajmeimjaapagaaGreatDoor.burnE;rw [h.lit];rfl
theorem Calm.burnS {n:Nat} {st:St} (h:Calm n st):burnS st=st:=by unfold Go.Proofs.YtajmeimjaapagaaGreatDoor.burnS;rw [h.lit];rfl
theorem Calm.createE {n:Nat} {st:St} (h:Calm n st) {nm:ByteArray} (hf:st.find nm=none):createE st nm=0:=by
 unfold Go.Proofs.YtajmeimjaapagaaGreatDoor.createE
 rw [h.down,hf,h.burnE]
 rfl
theorem Calm.createS {n:Nat} {st:St} (h:Calm n st) {nm:ByteArray} (hf:st.find nm=none):createS st nm = { st with fs:=st.fs ++ [(nm,emptyF)]}:=by
 unfold Go.Proofs.YtajmeimjaapagaaGreatDoor.createS
 rw [if_neg (by rw [h.down];simp),if_neg (by rw [hf];simp),if_pos h.burnE,h.burnS]
theorem Calm.create {n:Nat} {st:St} (h:Calm n st) {nm:ByteArray} (hf:st.find nm=none):Calm (n+1) (Go.Proofs.YtajmeimjaapagaaGreatDoor.createS st nm):=by
 have hg:=h.good.create nm
 refine ⟨hg,?_,?_⟩
 ·rw [h.createS hf];exact h.lit
 ·rw [h.createS hf];exact h.down
def GrowTo (w0 w:World) (b:Nat) (g:Gh) (st:St) (m:RowM) (e:Ending) (w':World):Prop:=e = .returned (.int .i64 0)∧∃ g',RowG w0 w' b g' (createS st (nameB m.head m.next.toNat)) { m with next:=m.next+m.size }∧RowTo w b g g' w'
set_option maxHeartbeats 1000000 in
set_option maxRecDepth 100000 in
theorem grow_ok (w0:World) (b:Nat) (g:Gh) (st:St) (m:RowM) (n:Nat) (k:Nat) (w:World) (h:RowG w0 w b g st m) (hc:Calm n st) (hn:n≤1048576) (hk:(k:Int)≤(st.cap:Int) - st.size)
 (h0:0≤m.next) (h1:m.next≤99999999) (h2:0≤m.size) (h3:m.size≤4096) (hh:m.head.size≤1099511627776) (hf:st.find (nameB m.head m.next.toNat)=none) :
 Calls Tryz.prog 119 #[.pointer (some ⟨b,0,none⟩),.int .i64 k] w (GrowTo w0 w b g st m):=by
 have hD:=down_any g st w h.disk
 rw [hc.down] at hD
 have hR:=room_any g st w h.disk hc.good.size hc.good.cap
 obtain ⟨u,hu⟩:∃ u:Nat,(u:Int)=m.next:=⟨m.next.toNat,by omega⟩
 have hu2:m.next.toNat=u:=by omega
 have hN:∀ W,Chg (fun _=>False) w W→Calls Tryz.prog 134 #[.string m.head,.int .i64 m.next] W fun e w'=>e = .returned (.tuple #[.string (nameB m.head u),.bool true])∧Below W.heap.size W w':=fun W hcw=>by
  rw [←hu]
  exact name_ok m.head u (by omega) hh W (tab_chg h.tab hcw)
 have hC:∀ W,RowG w0 W b g st m→Calls Tryz.prog 69 #[.pointer (some ⟨g.d,0,none⟩),.string (nameB m.head u)] W (OpTo g 0 (createS st (nameB m.head u)) W):=fun W hW=>by
  have:=create_any g st (nameB m.head u) W hW.disk (by rw [nameB_size];unfold maxLen;omega) hc.good.fuse (by have:=hc.good.len;omega)
  rwa [hc.createE (by rw [←hu2];exact hf)] at this
 have hcap:IntKind.i64.wrap (m.next+m.size)=m.next+m.size:=IntWalk.i64_in _ (by omega)
 obtain ⟨rm,hrm⟩:∃ rm:Int,rm=(st.cap:Int) - st.size:=⟨_,rfl⟩
 rw [←hrm] at hR hk
 obtain ⟨c0,c1,c2,c3,c4,c5,c6,c7,hz⟩:=h.row.cell
 obtain ⟨head,size,begin_,end_,next,synced,touched⟩:=m
 simp only at *
 have HD:=Lib.hid hD
 have HR:=Lib.hid hR
 have HN:=Lib.hid hN
 have HC:=Lib.hid hC
 have H:=Lib.hid h
 have HU:=Lib.hid hu2
 have HUN:=Lib.hid hu
 clear hD hR hN hC h hu hu2 hz c3 c4 c6 c7 hc hf hrm
 have hkr:¬ rm<(k:Int):=by omega
 go_enter Tryz.func119,Tryz.ntmps119
 go_wp2_with (go_at_call 99;refine HD.out.mono ?_;rintro e wx ⟨rfl,rfl⟩)
 go_wp2_with (go_at_call 117;refine HR.out.mono ?_)
 rintro e wx ⟨rfl,q,rfl⟩
 obtain ⟨W1,hW1⟩:∃ W,W=w.drewN q:=⟨_,rfl⟩
 have hcw1:Chg (fun _=>False) w W1:=hW1▸(Chg.refl _ _).drewN q
 have k0:=hcw1.cell c0 (fun x=>x)
 have k1:=hcw1.cell c1 (fun x=>x)
 have k5:=hcw1.cell c5 (fun x=>x)
 have HCW:=Lib.hid hcw1
 rw [←hW1]
 clear c0 c1 c2 c5 hW1 hcw1
 go_wp2_with fail
 go_region_held3 (fun w'=>w'.cell? ⟨b,1,none⟩=some (.string head)∧w'.cell? ⟨b,5,none⟩=some (.int .i64 next))
  (first|exact ⟨k1,k5⟩|go_keep)
  (first
   | (go_at_call 134
      ((with_reducible refine (HN.out _ ?_).mono ?_))
      ·repeat (first|exact HCW.out|with_reducible refine Chg.drew ?_|with_reducible refine Chg.drewN ?_ _)
      rintro e w5 ⟨rfl,hb5⟩
      have k1:=(Chg.of_below (S:=fun _=>False) hb5).cell (p:=⟨b,1,none⟩) k1 (fun x=>x)
      have k5:=(Chg.of_below (S:=fun _=>False) hb5).cell (p:=⟨b,5,none⟩) k5 (fun x=>x)
      have HB5:=Lib.hid hb5
      clear hb5))
 have hcw5:Chg (fun _=>False) w w5:=HCW.out.trans ((Chg.refl _ _).drew.trans (Chg.of_below HB5.out) (fun _ _ x=>x)) (fun _ _ x=>x)
 have hg5:=H.out.new hcw5
 have HG5:=Lib.hid hg5
 have HCW5:=Lib.hid hcw5
 obtain ⟨c0,c1,c2,c3,c4,c5,c6,c7,hz⟩:=hg5.row.cell
 simp only at c1 c2 c3 c4 c5 c6 c7
 clear hg5 hcw5 hz k0 k1 k5 c1 c2 c3 c4 c5 c6 c7
 go_wp2_with (go_at_call 69;refine (HC.out _ (by first|exact HG5.out|exact HG5.out.drew)).mono ?_)
 rintro e w6 ⟨rfl,g6,hd6,ht6⟩
 have h6:RowG w0 w6 b g6 (createS st (nameB head u)) ⟨head,size,begin_,end_,next,synced,touched⟩∧RowTo w b g g6 w6:=by
  have h7:=(by first|exact HG5.out.op hd6 ht6|exact HG5.out.drew.op hd6 ht6:RowG w0 w6 b g6 (createS st (nameB head u)) ⟨head,size,begin_,end_,next,synced,touched⟩∧_)
  exact ⟨h7.1,(RowTo.new b g (by first|exact HCW5.out|exact HCW5.out.drew)).trans h7.2⟩
 obtain ⟨c0,c1,c2,c3,c4,c5,c6,c7,hz⟩:=h6.1.row.cell
 have z5:=hz 5
 simp only at c1 c2 c3 c4 c5 c6 c7
 have H6:=Lib.hid h6
 clear h6 hd6 ht6 hz
 go_wp2_with fail
 go_still_tail 11,(by kernel_rfl)
 change wpList _ _ _ _ _ w6.drew
 have h7:=H6.out.1.drew
 have H7:=Lib.hid h7
 clear c0 c1 c2 c3 c4 c5 c6 c7 z5
 obtain ⟨c0,c1,c2,c3,c4,c5,c6,c7,hz⟩:=h7.row.cell
 have z5:=hz 5
 simp only at c1 c2 c3 c4 c5 c6 c7
 clear h7 hz
 go_wp2_with fail
 go_ret
 have h8:=H6.out.1.set 5 (.int .i64 (next+size)) ⟨head,size,begin_,end_,next+size,synced,touched⟩ rfl
 refine ⟨rfl,g6,?_,H6.out.2.trans (h8.2.trans (RowTo.new b g6 (Chg.refl _ _).drew))⟩
 show RowG w0 _ b g6 (createS st (nameB head next.toNat)) ⟨head,size,begin_,end_,next+size,synced,touched⟩
 rw [HU.out]
 exact h8.1.drew
end Go.Proofs.YtajmeimjaapagaaGreatDoor
namespace Go.Proofs.YtajmeimjaapagaaGreatDoor
open Go.RowKit Go.Deep
attribute [local go_sem] fr_opt
theorem Calm.writeE {n:Nat} {st:St} (h:Calm n st) {nm:ByteArray} {f:FileM} {a:Int} {s:ByteArray} (hf:st.find nm=some f) (ha:a=f.bytes.length) (hm:s.size≤st.cap - st.size):writeE st nm a s=0:=by
 unfold Go.Proofs.YtajmeimjaapagaaGreatDoor.writeE
 rw [if_neg (by rw [h.down];simp),hf]
 simp only
 rw [if_neg (by omega),if_neg,h.burnE]
 unfold more
 omega
theorem Calm.writeS {n:Nat} {st:St} (h:Calm n st) {nm:ByteArray} {f:FileM} {a:Int} {s:ByteArray} (hf:st.find nm=some f) (ha:a=f.bytes.length) (hm:s.size≤st.cap - st.size) (h0:s.size≠0) :
 writeS st nm a s = { st with size:=st.size+s.size,turn:=st.turn+1,fs:=setF st.fs nm (addF f ⟨(st.turn:Int)+1,a.toNat,s⟩)}:=by
 unfold Go.Proofs.YtajmeimjaapagaaGreatDoor.writeS
 have hmo:more f a.toNat s.size=s.size:=by unfold more;omega
 rw [if_neg (by rw [h.down];simp),hf]
 simp only
 rw [if_neg (by omega),if_neg (by rw [hmo];omega),if_pos h.burnE,if_neg h0,h.burnS,hmo]
theorem Calm.write {n:Nat} {st:St} (h:Calm n st) {nm:ByteArray} {f:FileM} {a:Int} {s:ByteArray} (hf:st.find nm=some f) (ha:a=f.bytes.length) (hm:s.size≤st.cap - st.size) (h0:s.size≠0):Calm (n+1) (Go.Proofs.YtajmeimjaapagaaGreatDoor.writeS st nm a s):=by
 have hg:=h.good.write nm a s
 refine ⟨hg,?_,?_⟩
 ·rw [h.writeS hf ha hm h0];exact h.lit
 ·rw [h.writeS hf ha hm h0];exact h.down
def pm (m:RowM):RowM:=if m.end_=m.next then { m with next:=m.next+m.size } else m
def ps (m:RowM) (st:St):St:=if m.end_=m.next then createS st (nameB m.head m.next.toNat) else st
def lastOf (m:RowM):Int:=(pm m).next - (pm m).size
def appM (m:RowM) (k:Nat):RowM:={ pm m with end_:=m.end_+k,touched:=min m.touched (lastOf m)}
def appS (m:RowM) (st:St) (s:ByteArray):St:=writeS (ps m st) (nameB m.head (lastOf m).toNat) (m.end_ - lastOf m) s
def roomR (m:RowM):Int:=if m.end_=m.next then m.size else m.next - m.end_
structure RowOk (n:Nat) (m:RowM) (st:St):Prop where
 calm:Calm n st
 beg:0≤m.begin_
 e0:0≤m.end_
 en:m.end_≤m.next
 nx:m.next≤99999999
 s1:16≤m.size
 s2:m.size≤4096
 head:m.head.size≤1048576
 fresh:m.end_=m.next→st.find (nameB m.head m.next.toNat)=none
 last:m.end_≠m.next→m.size≤m.next∧∃ f,st.find (nameB m.head (m.next - m.size).toNat)=some f∧m.end_ - (m.next - m.size)=(f.bytes.length:Int)
theorem find_snoc_new {fs:List (ByteArray×FileM)} {nm:ByteArray} {f:FileM} (h:(fs.find? fun p=>decide (p.1=nm)).map (·.2)=none):((fs ++ [(nm,f)]).find? fun p=>decide (p.1=nm)).map (·.2)=some f:=by
 rw [Option.map_eq_none_iff] at h
 rw [List.find?_append,h]
 simp
theorem RowOk.pre {n:Nat} {m:RowM} {st:St} (h:RowOk n m st):Calm (n+1) (ps m st)∧(ps m st).cap=st.cap∧(ps m st).size=st.size∧0≤lastOf m∧lastOf m≤99999999∧lastOf m≤m.end_ ∧
 ∃ f,(ps m st).find (nameB m.head (lastOf m).toNat)=some f∧m.end_ - lastOf m=(f.bytes.length:Int):=by
 have h1:=h.e0
 have h2:=h.en
 have h3:=h.nx
 have h4:=h.s1
 unfold ps lastOf pm
 by_cases he:m.end_=m.next
 ·rw [if_pos he,if_pos he,h.calm.createS (h.fresh he)]
  have hc:=h.calm.create (h.fresh he)
  rw [h.calm.createS (h.fresh he)] at hc
  have e:m.next+m.size - m.size=m.next:=by omega
  simp only [e]
  refine ⟨hc,trivial,trivial,by omega,by omega,by omega,emptyF,find_snoc_new (h.fresh he),?_⟩
  rw [he]
  show m.next - m.next=((([]:List UInt8).length:Nat):Int)
  simp
 ·rw [if_neg he,if_neg he]
  obtain ⟨h5,f,hf,hl⟩:=h.last he
  exact ⟨⟨h.calm.good.more (Nat.le_succ n),h.calm.lit,h.calm.down⟩,rfl,rfl,by omega,by omega,by omega,f,hf,hl⟩
def AppTo (w0 w:World) (b:Nat) (g:Gh) (st:St) (m:RowM) (s:ByteArray) (e:Ending) (w':World):Prop:=
 e = .returned (.tuple #[.int .i64 m.end_,.int .i64 0])∧∃ g',RowG w0 w' b g' (appS m st s) (appM m s.size)∧RowTo w b g g' w'
set_option maxHeartbeats 2000000 in
set_option maxRecDepth 100000 in
theorem append_ok (w0:World) (b:Nat) (g:Gh) (st:St) (m:RowM) (s:ByteArray) (n:Nat) (w:World) (h:RowG w0 w b g st m) (ho:RowOk n m st) (hn:n≤1048575)
 (hs0:s.size≠0) (hs:(s.size:Int)≤roomR m) (hcap:s.size≤st.cap - st.size) :
 Calls Tryz.prog 72 #[.pointer (some ⟨b,0,none⟩),.string s] w (AppTo w0 w b g st m s):=by
 have he0:=ho.e0
 have hen:=ho.en
 have hnx:=ho.nx
 have hs1:=ho.s1
 have hs2:=ho.s2
 have hhd:=ho.head
 obtain ⟨hcalm,hcp,hsz,hl0,hl1,hl2,f,hf,hfl⟩:=ho.pre
 have hR:=rroom_any b g.d m w h.row he0 hen (by omega)
 rw [show (if m.end_=m.next then m.size else m.next - m.end_)=roomR m from rfl] at hR
 have hroom:roomR m≤4096:=by
  unfold roomR
  split
  ·exact hs2
  ·rename_i hne
   have:=(ho.last hne).2
   obtain ⟨f',_,hl'⟩:=this
   have:(0:Int)≤(f'.bytes.length:Int):=Int.natCast_nonneg _
   omega
 have hG:m.end_=m.next→∀ W,RowG w0 W b g st m→Calls Tryz.prog 119 #[.pointer (some ⟨b,0,none⟩),.int .i64 s.size] W (GrowTo w0 W b g st m):=fun he W hW=>
  grow_ok w0 b g st m n s.size W hW ho.calm (by omega) (by omega) (by omega) hnx (by omega) hs2 (by omega) (ho.fresh he)
 have hla':0≤m.end_ - lastOf m:=by omega
 obtain ⟨rm,hrm⟩:∃ rm,rm=roomR m:=⟨_,rfl⟩
 rw [←hrm] at hR hs hroom
 obtain ⟨la,hla⟩:∃ la:Int,la=lastOf m:=⟨_,rfl⟩
 obtain ⟨u,hu⟩:∃ u:Nat,(u:Int)=la:=⟨la.toNat,by omega⟩
 have hun:(lastOf m).toNat=u:=by omega
 have hW:∀ W g1,RowG w0 W b g1 (ps m st) (pm m)→Calls Tryz.prog 81 #[.pointer (some ⟨g1.d,0,none⟩),.string (nameB m.head u),.int .i64 (m.end_ - la),.string s] W (OpTo g1 0 (appS m st s) W):=fun W g1 hg1=>by
  have:=write_any g1 (ps m st) (nameB m.head u) (m.end_ - la) s W hg1.disk (by rw [nameB_size];unfold maxLen;omega) hcalm.good.fuse (by omega) hcalm.good.cap hcalm.good.size (by have:=hcalm.good.turn;omega) (fun f hf=>by
   have:=hcalm.good.within (by omega) (find_mem hf)
   exact ⟨this.2.1,this.2.2.1⟩)
  rw [hcalm.writeE (f:=f) (by rw [←hun];exact hf) (by rw [hla];exact hfl) (by rw [hcp,hsz];exact hcap)] at this
  unfold appS
  rw [hun,←hla]
  exact this
 have hLs:∀ W g1,RowG w0 W b g1 (ps m st) (pm m)→Calls Tryz.prog 106 #[.pointer (some ⟨b,0,none⟩)] W fun e w'=>e = .returned (.int .i64 la)∧∃ q,w'=W.drewN q:=fun W g1 hg1=>by
  have hp1:0≤(pm m).next:=by unfold pm;split<;>(try simp only)<;>omega
  have hp2:(pm m).next≤1099511627776:=by unfold pm;split<;>(try simp only)<;>omega
  have hp3:(pm m).size=m.size:=by unfold pm;split<;>rfl
  have:=last_any b g1.d (pm m) W hg1.row hp1 (by omega) hp2 (by omega)
  rw [hla]
  exact this
 have hNm:∀ W g1,RowG w0 W b g1 (ps m st) (pm m)→Calls Tryz.prog 90 #[.pointer (some ⟨b,0,none⟩),.int .i64 la] W fun e w'=>e = .returned (.string (nameB m.head u))∧Below W.heap.size W w':=fun W g1 hg1=>by
  have hp3:(pm m).head=m.head:=by unfold pm;split<;>rfl
  have:=rname_any b g1.d (pm m) W hg1.row hg1.tab u (by omega) (by rw [hp3];omega)
  rw [hp3] at this
  rw [←hu]
  exact this
 have hz0:s.toList.isEmpty=false:=by
  rw [List.isEmpty_eq_false_iff]
  intro hx
  apply hs0
  rw [ByteArray.toList_eq] at hx
  have:=congrArg List.length hx
  rw [Array.length_toList] at this
  exact this
 have hkr:¬ rm<(s.size:Int):=by omega
 have H:=Lib.hid h
 have HR:=Lib.hid hR
 have HGR:=Lib.hid hG
 have HW:=Lib.hid hW
 have HLS:=Lib.hid hLs
 have HNM:=Lib.hid hNm
 have HLA:=Lib.hid hla
 have hslt:(s.size:Int)≤rm:=hs
 have hwr:IntKind.i64.wrap (m.end_ - la)=m.end_ - la:=IntWalk.i64_in _ (by omega)
 clear hR hG hW hLs hNm hla hun hu hf hfl hcalm hcp hsz hrm h ho
 go_enter Tryz.func72,Tryz.ntmps72
 go_wp2_with (go_at_call 114;refine HR.out.mono ?_;rintro e wx ⟨rfl,q,rfl⟩)
 obtain ⟨c0,c1,c2,c3,c4,c5,c6,c7,hz⟩:=H.out.row.cell
 clear hz c0 c1 c2 c3 c6 c7
 by_cases he:m.end_=m.next
 case' pos=>
  have hb:(m.end_ == m.next)=true:=by simpa using he
  have HE:=Lib.hid he
  clear he
  go_quiet (fail)
  go_wp2_with (go_at_call 119;refine (HGR.out HE.out _ (H.out.drewN _)).mono ?_)
  rintro e wy ⟨rfl,g1,hg1,ht1⟩
  have hg1:RowG w0 wy b g1 (ps m st) (pm m):=by
   unfold ps pm
   rw [if_pos HE.out,if_pos HE.out]
   exact hg1
  have ht1:=(RowTo.new b g ((Chg.refl (fun _=>False) w).drewN _)).trans ht1
 case' neg=>
  have hb:(m.end_ == m.next)=false:=by simpa using he
  have HE:=Lib.hid he
  clear he
  go_quiet (fail)
  go_wp2_with fail
  generalize hwy:(w.drewN q).drewN _=wy
  obtain ⟨g1,hgq⟩:∃ g1,g1=g:=⟨_,rfl⟩
  have hg1:RowG w0 wy b g1 (ps m st) (pm m):=by
   unfold ps pm
   rw [if_neg HE.out,if_neg HE.out,←hwy,hgq]
   exact (H.out.drewN q).drewN _
  have ht1:RowTo w b g g1 wy:=by rw [←hwy,hgq];exact RowTo.new b g (((Chg.refl _ _).drewN _).drewN _)
  clear hwy hgq
 all_goals
  clear c4 c5
  obtain ⟨c0,c1,c2,c3,c4,c5,c6,c7,hz⟩:=hg1.row.cell
  have e4:(pm m).end_=m.end_:=by unfold pm;split<;>rfl
  rw [e4] at c4
  have HG1:=Lib.hid hg1
  have HT1:=Lib.hid ht1
  clear hg1 ht1 hz c1 c2 c3 c5 c6 c7 e4
  go_wp2_with fail
  go_quiet ((go_at_call 106;exact Calls.quiet_of (HLS.out _ g1 (HG1.out.drewN _))))
  go_wp2_with fail
  generalize hwz:wy.drewN _=wz
  have hgz:RowG w0 wz b g1 (ps m st) (pm m):=hwz▸HG1.out.drewN _
  have htz:RowTo w b g g1 wz:=HT1.out.trans (hwz▸RowTo.new b g1 ((Chg.refl _ _).drewN _))
  have k0:=hgz.row.cell.1
  have HGZ:=Lib.hid hgz
  have HTZ:=Lib.hid htz
  clear hgz htz hwz c0 c4 HG1 HT1
  go_region_held3 (fun w'=>w'.cell? ⟨b,0,none⟩=some (.pointer (some ⟨g1.d,0,none⟩)))
   (first|exact k0|go_keep)
   (first
    | (go_at_call 90
       ((with_reducible refine (HNM.out _ g1 ?_).mono ?_))
       ·repeat (first|exact HGZ.out|with_reducible refine RowG.drew ?_|with_reducible refine RowG.drewN ?_ _)
       rintro e w8 ⟨rfl,hb8⟩
       have hg8:=HGZ.out.drew.new (Chg.of_below (S:=fun _=>False) hb8)
       have k0:=hg8.row.cell.1
       have HT8:Hid (RowTo w b g g1 w8):=HTZ.out.trans (RowTo.new b g1 ((Chg.refl _ _).drew.trans (Chg.of_below hb8) (fun _ _ x=>x)))
       have HG8:=Lib.hid hg8
       clear hb8 hg8)
    | (go_at_call 81
       ((with_reducible refine (HW.out _ g1 ?_).mono ?_))
       ·repeat (first|exact HG8.out|with_reducible refine RowG.drew ?_|with_reducible refine RowG.drewN ?_ _)
       rintro e w9 ⟨rfl,g2,hd2,ht2⟩
       have hg9:=HG8.out.op hd2 ht2
       have k0:=hg9.1.row.cell.1
       rw [hg9.2.d] at k0
       have HG9:=Lib.hid hg9
       clear hd2 ht2 hg9))
  have ep:(pm m).end_=m.end_∧(pm m).touched=m.touched:=by unfold pm;split<;>exact ⟨rfl,rfl⟩
  obtain ⟨c0,c1,c2,c3,c4,c5,c6,c7,hz⟩:=HG9.out.1.row.cell
  have z4:=hz 4
  have z7:=hz 7
  rw [ep.1] at c4
  rw [ep.2] at c7
  have HEP:=Lib.hid ep
  have hw2:IntKind.i64.wrap (m.end_+(s.size:Int))=m.end_+(s.size:Int):=IntWalk.i64_in _ (by omega)
  clear hz ep c0 c1 c2 c3 c5 c6 k0
  go_wp2_with fail
  go_ret2
  have h1:=HG9.out.1.set 4 (.int .i64 (m.end_+(s.size:Int))) { pm m with end_:=m.end_+(s.size:Int)} rfl
  have h2:=h1.1.set 7 (.int .i64 (min m.touched la)) (appM m s.size) (by unfold appM;rw [←HLA.out];rfl)
  exact ⟨rfl,g2,h2.1,HT8.out.trans (HG9.out.2.trans (h1.2.trans h2.2))⟩
end Go.Proofs.YtajmeimjaapagaaGreatDoor
namespace Go.Proofs.YtajmeimjaapagaaGreatDoor
open Go.RowKit Go.Deep
attribute [local go_sem] fr_opt
end Go.Proofs.YtajmeimjaapagaaGreatDoor
