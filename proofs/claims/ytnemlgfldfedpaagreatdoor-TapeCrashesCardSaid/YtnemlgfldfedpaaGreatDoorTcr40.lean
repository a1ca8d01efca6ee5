/- A part. -/
import Derived.Test.YtnemlgfldfedpaaGreatDoorTcr39
set_option linter.unusedVariables false
set_option linter.unusedSimpArgs false
namespace Go.Proofs.YtnemlgfldfedpaaGreatDoor
open Go.RowKit Go.Deep
attribute [local go_sem] fr_opt
structure Up (n:Nat) (st:St):Prop where
 good:Good n st
 down:st.down=false
theorem Calm.up {n:Nat} {st:St} (h:Calm n st):Up n st:=⟨h.good,h.down⟩
theorem burnS_same (st:St):(burnS st).cap=st.cap∧(burnS st).size=st.size∧(burnS st).turn=st.turn∧(burnS st).fs=st.fs:=by
 unfold burnS;split<;>(try split)<;>exact ⟨rfl,rfl,rfl,rfl⟩
theorem burnS_down {st:St} (h:burnE st=0):(burnS st).down=st.down:=by
 unfold burnE at h
 unfold burnS
 split
 ·split
  ·rename_i h1 h2;rw [if_pos ⟨h1,h2⟩] at h;exact absurd h (by decide)
  ·rfl
 ·rfl
theorem burn_two (st:St):burnE st=0∨burnE st=8:=by
 unfold burnE;split<;>(try split)<;>simp
theorem Up.createE {n:Nat} {st:St} (h:Up n st) {nm:ByteArray} (hf:st.find nm=none):createE st nm=burnE st:=by
 unfold Go.Proofs.YtnemlgfldfedpaaGreatDoor.createE
 rw [if_neg (by rw [h.down];simp),if_neg (by rw [hf];simp)]
theorem Up.createS {n:Nat} {st:St} (h:Up n st) {nm:ByteArray} (hf:st.find nm=none) (hb:burnE st=0):createS st nm = { burnS st with fs:=st.fs ++ [(nm,emptyF)]}:=by
 unfold Go.Proofs.YtnemlgfldfedpaaGreatDoor.createS
 rw [if_neg (by rw [h.down];simp),if_neg (by rw [hf];simp),if_pos hb]
theorem Up.create {n:Nat} {st:St} (h:Up n st) {nm:ByteArray} (hf:st.find nm=none) (hb:burnE st=0):Up (n+1) (Go.Proofs.YtnemlgfldfedpaaGreatDoor.createS st nm):=by
 refine ⟨h.good.create nm,?_⟩
 rw [h.createS hf hb];exact (burnS_down hb).trans h.down
set_option maxHeartbeats 1000000 in
set_option maxRecDepth 100000 in
theorem grow_up (w0:World) (b:Nat) (g:Gh) (st:St) (m:RowM) (n:Nat) (k:Nat) (w:World) (h:RowG w0 w b g st m) (hc:Up n st) (hbn:burnE st=0) (hn:n≤1048576) (hk:(k:Int)≤(st.cap:Int) - st.size)
 (h0:0≤m.next) (h1:m.next≤99999999) (h2:0≤m.size) (h3:m.size≤4096) (hh:m.head.size≤1099511627776) (hf:st.find (nameB m.head m.next.toNat)=none) :
 Calls Tryz.prog 72 #[.pointer (some ⟨b,0,none⟩),.int .i64 k] w (GrowTo w0 w b g st m):=by
 have hD:=down_any g st w h.disk
 rw [hc.down] at hD
 have hR:=room_any g st w h.disk hc.good.size hc.good.cap
 obtain ⟨u,hu⟩:∃ u:Nat,(u:Int)=m.next:=⟨m.next.toNat,by omega⟩
 have hu2:m.next.toNat=u:=by omega
 have hN:∀ W,Chg (fun _=>False) w W→Calls Tryz.prog 96 #[.string m.head,.int .i64 m.next] W fun e w'=>e = .returned (.tuple #[.string (nameB m.head u),.bool true])∧Below W.heap.size W w':=fun W hcw=>by
  rw [←hu]
  exact name_ok m.head u (by omega) hh W (tab_chg h.tab hcw)
 have hC:∀ W,RowG w0 W b g st m→Calls Tryz.prog 107 #[.pointer (some ⟨g.d,0,none⟩),.string (nameB m.head u)] W (OpTo g 0 (createS st (nameB m.head u)) W):=fun W hW=>by
  have:=create_any g st (nameB m.head u) W hW.disk (by rw [nameB_size];unfold maxLen;omega) hc.good.fuse (by have:=hc.good.len;omega)
  rwa [hc.createE (by rw [←hu2];exact hf),hbn] at this
 have hcap:IntKind.i64.wrap (m.next+m.size)=m.next+m.size:=IntWalk.i64_in _ (by omega)
 obtain ⟨rm,hrm⟩:∃ rm:Int,rm=(st.cap:Int) - st.size:=⟨_,rfl⟩
 rw [←hrm] at hR hk
 obtain ⟨c0,c1,c2,c3,c4,c5,c6,c7,hz⟩:=h.row.cell
 obtain ⟨head,size,begin_,end_,next,synced,touched⟩:=m
 simp only at *
 have HD:=Lib.hid hD
 have HR:=Lib.hid hR
 have HN:=Lib.hid hN
 have HC:=Lib.hid hC
 have H:=Lib.hid h
 have HU:=Lib.hid hu2
 have HUN:=Lib.hid hu
 clear hD hR hN hC h hu hu2 hz c3 c4 c6 c7 hc hf hrm hbn
 have hkr:¬ rm<(k:Int):=by omega
 go_enter Tryz.func72,Tryz.ntmps72
 go_wp2_with (go_at_call 47;refine HD.out.mono ?_;rintro e wx ⟨rfl,rfl⟩)
 go_wp2_with (go_at_call 70;refine HR.out.mono ?_)
 rintro e wx ⟨rfl,q,rfl⟩
 obtain ⟨W1,hW1⟩:∃ W,W=w.drewN q:=⟨_,rfl⟩
 have hcw1:Chg (fun _=>False) w W1:=hW1▸(Chg.refl _ _).drewN q
 have k0:=hcw1.cell c0 (fun x=>x)
 have k1:=hcw1.cell c1 (fun x=>x)
 have k5:=hcw1.cell c5 (fun x=>x)
 have HCW:=Lib.hid hcw1
 rw [←hW1]
 clear c0 c1 c2 c5 hW1 hcw1
 go_wp2_with fail
 go_region_held3 (fun w'=>w'.cell? ⟨b,1,none⟩=some (.string head)∧w'.cell? ⟨b,5,none⟩=some (.int .i64 next))
  (first|exact ⟨k1,k5⟩|go_keep)
  (first
   | (go_at_call 96
      ((with_reducible refine (HN.out _ ?_).mono ?_))
      ·repeat (first|exact HCW.out|with_reducible refine Chg.drew ?_|with_reducible refine Chg.drewN ?_ _)
      rintro e w5 ⟨rfl,hb5⟩
      have k1:=(Chg.of_below (S:=fun _=>False) hb5).cell (p:=⟨b,1,none⟩) k1 (fun x=>x)
      have k5:=(Chg.of_below (S:=fun _=>False) hb5).cell (p:=⟨b,5,none⟩) k5 (fun x=>x)
      have HB5:=Lib.hid hb5
      clear hb5))
 have hcw5:Chg (fun _=>False) w w5:=HCW.out.trans ((Chg.refl _ _).drew.trans (Chg.of_below HB5.out) (fun _ _ x=>x)) (fun _ _ x=>x)
 have hg5:=H.out.new hcw5
 have HG5:=Lib.hid hg5
 have HCW5:=Lib.hid hcw5
 obtain ⟨c0,c1,c2,c3,c4,c5,c6,c7,hz⟩:=hg5.row.cell
 simp only at c1 c2 c3 c4 c5 c6 c7
 clear hg5 hcw5 hz k0 k1 k5 c1 c2 c3 c4 c5 c6 c7
 go_wp2_with (go_at_call 107;refine (HC.out _ (by first|exact HG5.out|exact HG5.out.drew)).mono ?_)
 rintro e w6 ⟨rfl,g6,hd6,ht6⟩
 have h6:RowG w0 w6 b g6 (createS st (nameB head u)) ⟨head,size,begin_,end_,next,synced,touched⟩∧RowTo w b g g6 w6:=by
  have h7:=(by first|exact HG5.out.op hd6 ht6|exact HG5.out.drew.op hd6 ht6:RowG w0 w6 b g6 (createS st (nameB head u)) ⟨head,size,begin_,end_,next,synced,touched⟩∧_)
  exact ⟨h7.1,(RowTo.new b g (by first|exact HCW5.out|exact HCW5.out.drew)).trans h7.2⟩
 obtain ⟨c0,c1,c2,c3,c4,c5,c6,c7,hz⟩:=h6.1.row.cell
 have z5:=hz 5
 simp only at c1 c2 c3 c4 c5 c6 c7
 have H6:=Lib.hid h6
 clear h6 hd6 ht6 hz
 go_wp2_with fail
 go_still_tail 11,(by kernel_rfl)
 change wpList _ _ _ _ _ w6.drew
 have h7:=H6.out.1.drew
 have H7:=Lib.hid h7
 clear c0 c1 c2 c3 c4 c5 c6 c7 z5
 obtain ⟨c0,c1,c2,c3,c4,c5,c6,c7,hz⟩:=h7.row.cell
 have z5:=hz 5
 simp only at c1 c2 c3 c4 c5 c6 c7
 clear h7 hz
 go_wp2_with fail
 go_ret
 have h8:=H6.out.1.set 5 (.int .i64 (next+size)) ⟨head,size,begin_,end_,next+size,synced,touched⟩ rfl
 refine ⟨rfl,g6,?_,H6.out.2.trans (h8.2.trans (RowTo.new b g6 (Chg.refl _ _).drew))⟩
 show RowG w0 _ b g6 (createS st (nameB head next.toNat)) ⟨head,size,begin_,end_,next+size,synced,touched⟩
 rw [HU.out]
 exact h8.1.drew
def GrowNo (w0 w:World) (b:Nat) (g:Gh) (st:St) (m:RowM) (e:Ending) (w':World):Prop:=e = .returned (.int .i64 8)∧∃ g',RowG w0 w' b g' (createS st (nameB m.head m.next.toNat)) m∧RowTo w b g g' w'
set_option maxHeartbeats 1000000 in
set_option maxRecDepth 100000 in
theorem grow_down (w0:World) (b:Nat) (g:Gh) (st:St) (m:RowM) (n:Nat) (k:Nat) (w:World) (h:RowG w0 w b g st m) (hc:Up n st) (hbn:burnE st=8) (hn:n≤1048576) (hk:(k:Int)≤(st.cap:Int) - st.size)
 (h0:0≤m.next) (h1:m.next≤99999999) (h2:0≤m.size) (h3:m.size≤4096) (hh:m.head.size≤1099511627776) (hf:st.find (nameB m.head m.next.toNat)=none) :
 Calls Tryz.prog 72 #[.pointer (some ⟨b,0,none⟩),.int .i64 k] w (GrowNo w0 w b g st m):=by
 have hD:=down_any g st w h.disk
 rw [hc.down] at hD
 have hR:=room_any g st w h.disk hc.good.size hc.good.cap
 obtain ⟨u,hu⟩:∃ u:Nat,(u:Int)=m.next:=⟨m.next.toNat,by omega⟩
 have hu2:m.next.toNat=u:=by omega
 have hN:∀ W,Chg (fun _=>False) w W→Calls Tryz.prog 96 #[.string m.head,.int .i64 m.next] W fun e w'=>e = .returned (.tuple #[.string (nameB m.head u),.bool true])∧Below W.heap.size W w':=fun W hcw=>by
  rw [←hu]
  exact name_ok m.head u (by omega) hh W (tab_chg h.tab hcw)
 have hC:∀ W,RowG w0 W b g st m→Calls Tryz.prog 107 #[.pointer (some ⟨g.d,0,none⟩),.string (nameB m.head u)] W (OpTo g 8 (createS st (nameB m.head u)) W):=fun W hW=>by
  have:=create_any g st (nameB m.head u) W hW.disk (by rw [nameB_size];unfold maxLen;omega) hc.good.fuse (by have:=hc.good.len;omega)
  rwa [hc.createE (by rw [←hu2];exact hf),hbn] at this
 have hcap:IntKind.i64.wrap (m.next+m.size)=m.next+m.size:=IntWalk.i64_in _ (by omega)
 obtain ⟨rm,hrm⟩:∃ rm:Int,rm=(st.cap:Int) - st.size:=⟨_,rfl⟩
 rw [←hrm] at hR hk
 obtain ⟨c0,c1,c2,c3,c4,c5,c6,c7,hz⟩:=h.row.cell
 obtain ⟨head,size,begin_,end_,next,synced,touched⟩:=m
 simp only at *
 have HD:=Lib.hid hD
 have HR:=Lib.hid hR
 have HN:=Lib.hid hN
 have HC:=Lib.hid hC
 have H:=Lib.hid h
 have HU:=Lib.hid hu2
 have HUN:=Lib.hid hu
 clear hD hR hN hC h hu hu2 hz c3 c4 c6 c7 hc hf hrm hbn
 have hkr:¬ rm<(k:Int):=by omega
 go_enter Tryz.func72,Tryz.ntmps72
 go_wp2_with (go_at_call 47;refine HD.out.mono ?_;rintro e wx ⟨rfl,rfl⟩)
 go_wp2_with (go_at_call 70;refine HR.out.mono ?_)
 rintro e wx ⟨rfl,q,rfl⟩
 obtain ⟨W1,hW1⟩:∃ W,W=w.drewN q:=⟨_,rfl⟩
 have hcw1:Chg (fun _=>False) w W1:=hW1▸(Chg.refl _ _).drewN q
 have k0:=hcw1.cell c0 (fun x=>x)
 have k1:=hcw1.cell c1 (fun x=>x)
 have k5:=hcw1.cell c5 (fun x=>x)
 have HCW:=Lib.hid hcw1
 rw [←hW1]
 clear c0 c1 c2 c5 hW1 hcw1
 go_wp2_with fail
 go_region_held3 (fun w'=>w'.cell? ⟨b,1,none⟩=some (.string head)∧w'.cell? ⟨b,5,none⟩=some (.int .i64 next))
  (first|exact ⟨k1,k5⟩|go_keep)
  (first
   | (go_at_call 96
      ((with_reducible refine (HN.out _ ?_).mono ?_))
      ·repeat (first|exact HCW.out|with_reducible refine Chg.drew ?_|with_reducible refine Chg.drewN ?_ _)
      rintro e w5 ⟨rfl,hb5⟩
      have k1:=(Chg.of_below (S:=fun _=>False) hb5).cell (p:=⟨b,1,none⟩) k1 (fun x=>x)
      have k5:=(Chg.of_below (S:=fun _=>False) hb5).cell (p:=⟨b,5,none⟩) k5 (fun x=>x)
      have HB5:=Lib.hid hb5
      clear hb5))
 have hcw5:Chg (fun _=>False) w w5:=HCW.out.trans ((Chg.refl _ _).drew.trans (Chg.of_below HB5.out) (fun _ _ x=>x)) (fun _ _ x=>x)
 have hg5:=H.out.new hcw5
 have HG5:=Lib.hid hg5
 have HCW5:=Lib.hid hcw5
 obtain ⟨c0,c1,c2,c3,c4,c5,c6,c7,hz⟩:=hg5.row.cell
 simp only at c1 c2 c3 c4 c5 c6 c7
 clear hg5 hcw5 hz k0 k1 k5 c1 c2 c3 c4 c5 c6 c7
 go_wp2_with (go_at_call 107;refine (HC.out _ (by first|exact HG5.out|exact HG5.out.drew)).mono ?_)
 rintro e w6 ⟨rfl,g6,hd6,ht6⟩
 have h6:RowG w0 w6 b g6 (createS st (nameB head u)) ⟨head,size,begin_,end_,next,synced,touched⟩∧RowTo w b g g6 w6:=by
  have h7:=(by first|exact HG5.out.op hd6 ht6|exact HG5.out.drew.op hd6 ht6:RowG w0 w6 b g6 (createS st (nameB head u)) ⟨head,size,begin_,end_,next,synced,touched⟩∧_)
  exact ⟨h7.1,(RowTo.new b g (by first|exact HCW5.out|exact HCW5.out.drew)).trans h7.2⟩
 obtain ⟨c0,c1,c2,c3,c4,c5,c6,c7,hz⟩:=h6.1.row.cell
 have z5:=hz 5
 simp only at c1 c2 c3 c4 c5 c6 c7
 have H6:=Lib.hid h6
 clear h6 hd6 ht6 hz
 go_wp2_with fail
 go_ret
 refine ⟨rfl,g6,?_,H6.out.2⟩
 rw [HU.out]
 exact H6.out.1
theorem Up.writeE {n:Nat} {st:St} (h:Up n st) {nm:ByteArray} {f:FileM} {a:Int} {s:ByteArray} (hf:st.find nm=some f) (ha:a=f.bytes.length) (hm:s.size≤st.cap - st.size):writeE st nm a s=burnE st:=by
 unfold Go.Proofs.YtnemlgfldfedpaaGreatDoor.writeE
 rw [if_neg (by rw [h.down];simp),hf]
 simp only
 rw [if_neg (by omega),if_neg]
 unfold more
 omega
theorem Up.writeS {n:Nat} {st:St} (h:Up n st) {nm:ByteArray} {f:FileM} {a:Int} {s:ByteArray} (hf:st.find nm=some f) (ha:a=f.bytes.length) (hm:s.size≤st.cap - st.size) (h0:s.size≠0) (hb:burnE st=0) :
 writeS st nm a s = { burnS st with size:=st.size+s.size,turn:=st.turn+1,fs:=setF st.fs nm (addF f ⟨(st.turn:Int)+1,a.toNat,s⟩)}:=by
 unfold Go.Proofs.YtnemlgfldfedpaaGreatDoor.writeS
 have hmo:more f a.toNat s.size=s.size:=by unfold more;omega
 obtain ⟨e1,e2,e3,e4⟩:=burnS_same st
 rw [if_neg (by rw [h.down];simp),hf]
 simp only
 rw [if_neg (by omega),if_neg (by rw [hmo];omega),if_pos hb,if_neg h0,hmo]
theorem Up.write {n:Nat} {st:St} (h:Up n st) {nm:ByteArray} {f:FileM} {a:Int} {s:ByteArray} (hf:st.find nm=some f) (ha:a=f.bytes.length) (hm:s.size≤st.cap - st.size) (h0:s.size≠0) (hb:burnE st=0):Up (n+1) (Go.Proofs.YtnemlgfldfedpaaGreatDoor.writeS st nm a s):=by
 refine ⟨h.good.write nm a s,?_⟩
 rw [h.writeS hf ha hm h0 hb];exact (burnS_down hb).trans h.down
structure RowUp (n:Nat) (m:RowM) (st:St):Prop where
 calm:Up n st
 beg:0≤m.begin_
 e0:0≤m.end_
 en:m.end_≤m.next
 nx:m.next≤99999999
 s1:16≤m.size
 s2:m.size≤4096
 head:m.head.size≤1048576
 fresh:m.end_=m.next→st.find (nameB m.head m.next.toNat)=none
 last:m.end_≠m.next→m.size≤m.next∧∃ f,st.find (nameB m.head (m.next - m.size).toNat)=some f∧m.end_ - (m.next - m.size)=(f.bytes.length:Int)
theorem RowUp.pre {n:Nat} {m:RowM} {st:St} (h:RowUp n m st) (hb:m.end_=m.next→burnE st=0):Up (n+1) (ps m st)∧(ps m st).cap=st.cap∧(ps m st).size=st.size∧0≤lastOf m∧lastOf m≤99999999∧lastOf m≤m.end_ ∧
 ∃ f,(ps m st).find (nameB m.head (lastOf m).toNat)=some f∧m.end_ - lastOf m=(f.bytes.length:Int):=by
 have h1:=h.e0
 have h2:=h.en
 have h3:=h.nx
 have h4:=h.s1
 unfold ps lastOf pm
 by_cases he:m.end_=m.next
 ·rw [if_pos he,if_pos he,h.calm.createS (h.fresh he) (hb he)]
  have hc:=h.calm.create (h.fresh he) (hb he)
  rw [h.calm.createS (h.fresh he) (hb he)] at hc
  have e:m.next+m.size - m.size=m.next:=by omega
  simp only [e]
  refine ⟨hc,(burnS_same st).1,(burnS_same st).2.1,by omega,by omega,by omega,emptyF,find_snoc_new (h.fresh he),?_⟩
  rw [he]
  show m.next - m.next=((([]:List UInt8).length:Nat):Int)
  simp
 ·rw [if_neg he,if_neg he]
  obtain ⟨h5,f,hf,hl⟩:=h.last he
  exact ⟨⟨h.calm.good.more (Nat.le_succ n),h.calm.down⟩,rfl,rfl,by omega,by omega,by omega,f,hf,hl⟩
set_option maxHeartbeats 2000000 in
set_option maxRecDepth 100000 in
theorem append_up (w0:World) (b:Nat) (g:Gh) (st:St) (m:RowM) (s:ByteArray) (n:Nat) (w:World) (h:RowG w0 w b g st m) (ho:RowUp n m st) (hb1:m.end_=m.next→burnE st=0) (hb2:burnE (ps m st)=0) (hn:n≤1048575)
 (hs0:s.size≠0) (hs:(s.size:Int)≤roomR m) (hcap:s.size≤st.cap - st.size) :
 Calls Tryz.prog 34 #[.pointer (some ⟨b,0,none⟩),.string s] w (AppTo w0 w b g st m s):=by
 have he0:=ho.e0
 have hen:=ho.en
 have hnx:=ho.nx
 have hs1:=ho.s1
 have hs2:=ho.s2
 have hhd:=ho.head
 obtain ⟨hcalm,hcp,hsz,hl0,hl1,hl2,f,hf,hfl⟩:=ho.pre hb1
 have hR:=rroom_any b g.d m w h.row he0 hen (by omega)
 rw [show (if m.end_=m.next then m.size else m.next - m.end_)=roomR m from rfl] at hR
 have hroom:roomR m≤4096:=by
  unfold roomR
  split
  ·exact hs2
  ·rename_i hne
   have:=(ho.last hne).2
   obtain ⟨f',_,hl'⟩:=this
   have:(0:Int)≤(f'.bytes.length:Int):=Int.natCast_nonneg _
   omega
 have hG:m.end_=m.next→∀ W,RowG w0 W b g st m→Calls Tryz.prog 72 #[.pointer (some ⟨b,0,none⟩),.int .i64 s.size] W (GrowTo w0 W b g st m):=fun he W hW=>
  grow_up w0 b g st m n s.size W hW ho.calm (hb1 he) (by omega) (by omega) (by omega) hnx (by omega) hs2 (by omega) (ho.fresh he)
 have hla':0≤m.end_ - lastOf m:=by omega
 obtain ⟨rm,hrm⟩:∃ rm,rm=roomR m:=⟨_,rfl⟩
 rw [←hrm] at hR hs hroom
 obtain ⟨la,hla⟩:∃ la:Int,la=lastOf m:=⟨_,rfl⟩
 obtain ⟨u,hu⟩:∃ u:Nat,(u:Int)=la:=⟨la.toNat,by omega⟩
 have hun:(lastOf m).toNat=u:=by omega
 have hW:∀ W g1,RowG w0 W b g1 (ps m st) (pm m)→Calls Tryz.prog 73 #[.pointer (some ⟨g1.d,0,none⟩),.string (nameB m.head u),.int .i64 (m.end_ - la),.string s] W (OpTo g1 0 (appS m st s) W):=fun W g1 hg1=>by
  have:=write_any g1 (ps m st) (nameB m.head u) (m.end_ - la) s W hg1.disk (by rw [nameB_size];unfold maxLen;omega) hcalm.good.fuse (by omega) hcalm.good.cap hcalm.good.size (by have:=hcalm.good.turn;omega) (fun f hf=>by
   have:=hcalm.good.within (by omega) (find_mem hf)
   exact ⟨this.2.1,this.2.2.1⟩)
  rw [hcalm.writeE (f:=f) (by rw [←hun];exact hf) (by rw [hla];exact hfl) (by rw [hcp,hsz];exact hcap),hb2] at this
  unfold appS
  rw [hun,←hla]
  exact this
 have hLs:∀ W g1,RowG w0 W b g1 (ps m st) (pm m)→Calls Tryz.prog 56 #[.pointer (some ⟨b,0,none⟩)] W fun e w'=>e = .returned (.int .i64 la)∧∃ q,w'=W.drewN q:=fun W g1 hg1=>by
  have hp1:0≤(pm m).next:=by unfold pm;split<;>(try simp only)<;>omega
  have hp2:(pm m).next≤1099511627776:=by unfold pm;split<;>(try simp only)<;>omega
  have hp3:(pm m).size=m.size:=by unfold pm;split<;>rfl
  have:=last_any b g1.d (pm m) W hg1.row hp1 (by omega) hp2 (by omega)
  rw [hla]
  exact this
 have hNm:∀ W g1,RowG w0 W b g1 (ps m st) (pm m)→Calls Tryz.prog 55 #[.pointer (some ⟨b,0,none⟩),.int .i64 la] W fun e w'=>e = .returned (.string (nameB m.head u))∧Below W.heap.size W w':=fun W g1 hg1=>by
  have hp3:(pm m).head=m.head:=by unfold pm;split<;>rfl
  have:=rname_any b g1.d (pm m) W hg1.row hg1.tab u (by omega) (by rw [hp3];omega)
  rw [hp3] at this
  rw [←hu]
  exact this
 have hz0:s.toList.isEmpty=false:=by
  rw [List.isEmpty_eq_false_iff]
  intro hx
  apply hs0
  rw [ByteArray.toList_eq] at hx
  have:=congrArg List.length hx
  rw [Array.length_toList] at this
  exact this
 have hkr:¬ rm<(s.size:Int):=by omega
 have H:=Lib.hid h
 have HR:=Lib.hid hR
 have HGR:=Lib.hid hG
 have HW:=Lib.hid hW
 have HLS:=Lib.hid hLs
 have HNM:=Lib.hid hNm
 have HLA:=Lib.hid hla
 have hslt:(s.size:Int)≤rm:=hs
 have hwr:IntKind.i64.wrap (m.end_ - la)=m.end_ - la:=IntWalk.i64_in _ (by omega)
 clear hR hG hW hLs hNm hla hun hu hf hfl hcalm hcp hsz hrm h ho hb1 hb2
 go_enter Tryz.func34,Tryz.ntmps34
 go_wp2_with (go_at_call 67;refine HR.out.mono ?_;rintro e wx ⟨rfl,q,rfl⟩)
 obtain ⟨c0,c1,c2,c3,c4,c5,c6,c7,hz⟩:=H.out.row.cell
 clear hz c0 c1 c2 c3 c6 c7
 by_cases he:m.end_=m.next
 case' pos=>
  have hb:(m.end_ == m.next)=true:=by simpa using he
  have HE:=Lib.hid he
  clear he
  go_quiet (fail)
  go_wp2_with (go_at_call 72;refine (HGR.out HE.out _ (H.out.drewN _)).mono ?_)
  rintro e wy ⟨rfl,g1,hg1,ht1⟩
  have hg1:RowG w0 wy b g1 (ps m st) (pm m):=by
   unfold ps pm
   rw [if_pos HE.out,if_pos HE.out]
   exact hg1
  have ht1:=(RowTo.new b g ((Chg.refl (fun _=>False) w).drewN _)).trans ht1
 case' neg=>
  have hb:(m.end_ == m.next)=false:=by simpa using he
  have HE:=Lib.hid he
  clear he
  go_quiet (fail)
  go_wp2_with fail
  generalize hwy:(w.drewN q).drewN _=wy
  obtain ⟨g1,hgq⟩:∃ g1,g1=g:=⟨_,rfl⟩
  have hg1:RowG w0 wy b g1 (ps m st) (pm m):=by
   unfold ps pm
   rw [if_neg HE.out,if_neg HE.out,←hwy,hgq]
   exact (H.out.drewN q).drewN _
  have ht1:RowTo w b g g1 wy:=by rw [←hwy,hgq];exact RowTo.new b g (((Chg.refl _ _).drewN _).drewN _)
  clear hwy hgq
 all_goals
  clear c4 c5
  obtain ⟨c0,c1,c2,c3,c4,c5,c6,c7,hz⟩:=hg1.row.cell
  have e4:(pm m).end_=m.end_:=by unfold pm;split<;>rfl
  rw [e4] at c4
  have HG1:=Lib.hid hg1
  have HT1:=Lib.hid ht1
  clear hg1 ht1 hz c1 c2 c3 c5 c6 c7 e4
  go_wp2_with fail
  go_quiet ((go_at_call 56;exact Calls.quiet_of (HLS.out _ g1 (HG1.out.drewN _))))
  go_wp2_with fail
  generalize hwz:wy.drewN _=wz
  have hgz:RowG w0 wz b g1 (ps m st) (pm m):=hwz▸HG1.out.drewN _
  have htz:RowTo w b g g1 wz:=HT1.out.trans (hwz▸RowTo.new b g1 ((Chg.refl _ _).drewN _))
  have k0:=hgz.row.cell.1
  have HGZ:=Lib.hid hgz
  have HTZ:=Lib.hid htz
  clear hgz htz hwz c0 c4 HG1 HT1
  go_region_held3 (fun w'=>w'.cell? ⟨b,0,none⟩=some (.pointer (some ⟨g1.d,0,none⟩)))
   (first|exact k0|go_keep)
   (first
    | (go_at_call 55
       ((with_reducible refine (HNM.out _ g1 ?_).mono ?_))
       ·repeat (first|exact HGZ.out|with_reducible refine RowG.drew ?_|with_reducible refine RowG.drewN ?_ _)
       rintro e w8 ⟨rfl,hb8⟩
       have hg8:=HGZ.out.drew.new (Chg.of_below (S:=fun _=>False) hb8)
       have k0:=hg8.row.cell.1
       have HT8:Hid (RowTo w b g g1 w8):=HTZ.out.trans (RowTo.new b g1 ((Chg.refl _ _).drew.trans (Chg.of_below hb8) (fun _ _ x=>x)))
       have HG8:=Lib.hid hg8
       clear hb8 hg8)
    | (go_at_call 73
       ((with_reducible refine (HW.out _ g1 ?_).mono ?_))
       ·repeat (first|exact HG8.out|with_reducible refine RowG.drew ?_|with_reducible refine RowG.drewN ?_ _)
       rintro e w9 ⟨rfl,g2,hd2,ht2⟩
       have hg9:=HG8.out.op hd2 ht2
       have k0:=hg9.1.row.cell.1
       rw [hg9.2.d] at k0
       have HG9:=Lib.hid hg9
       clear hd2 ht2 hg9))
  have ep:(pm m).end_=m.end_∧(pm m).touched=m.touched:=by unfold pm;split<;>exact ⟨rfl,rfl⟩
  obtain ⟨c0,c1,c2,c3,c4,c5,c6,c7,hz⟩:=HG9.out.1.row.cell
  have z4:=hz 4
  have z7:=hz 7
  rw [ep.1] at c4
  rw [ep.2] at c7
  have HEP:=Lib.hid ep
  have hw2:IntKind.i64.wrap (m.end_+(s.size:Int))=m.end_+(s.size:Int):=IntWalk.i64_in _ (by omega)
  clear hz ep c0 c1 c2 c3 c5 c6 k0
  go_wp2_with fail
  go_ret2
  have h1:=HG9.out.1.set 4 (.int .i64 (m.end_+(s.size:Int))) { pm m with end_:=m.end_+(s.size:Int)} rfl
  have h2:=h1.1.set 7 (.int .i64 (min m.touched la)) (appM m s.size) (by unfold appM;rw [←HLA.out];rfl)
  exact ⟨rfl,g2,h2.1,HT8.out.trans (HG9.out.2.trans (h1.2.trans h2.2))⟩
def AppNo (w0 w:World) (b:Nat) (g:Gh) (st':St) (e:Ending) (w':World):Prop:=e = .returned (.tuple #[.int .i64 0,.int .i64 8])∧∃ g' m',RowG w0 w' b g' st' m'∧RowTo w b g g' w'
set_option maxHeartbeats 2000000 in
set_option maxRecDepth 100000 in
theorem append_down (w0:World) (b:Nat) (g:Gh) (st:St) (m:RowM) (s:ByteArray) (n:Nat) (w:World) (h:RowG w0 w b g st m) (ho:RowUp n m st) (hb1:m.end_=m.next→burnE st=0) (hb2:burnE (ps m st)=8) (hn:n≤1048575)
 (hs0:s.size≠0) (hs:(s.size:Int)≤roomR m) (hcap:s.size≤st.cap - st.size) :
 Calls Tryz.prog 34 #[.pointer (some ⟨b,0,none⟩),.string s] w (AppNo w0 w b g (appS m st s)):=by
 have he0:=ho.e0
 have hen:=ho.en
 have hnx:=ho.nx
 have hs1:=ho.s1
 have hs2:=ho.s2
 have hhd:=ho.head
 obtain ⟨hcalm,hcp,hsz,hl0,hl1,hl2,f,hf,hfl⟩:=ho.pre hb1
 have hR:=rroom_any b g.d m w h.row he0 hen (by omega)
 rw [show (if m.end_=m.next then m.size else m.next - m.end_)=roomR m from rfl] at hR
 have hroom:roomR m≤4096:=by
  unfold roomR
  split
  ·exact hs2
  ·rename_i hne
   have:=(ho.last hne).2
   obtain ⟨f',_,hl'⟩:=this
   have:(0:Int)≤(f'.bytes.length:Int):=Int.natCast_nonneg _
   omega
 have hG:m.end_=m.next→∀ W,RowG w0 W b g st m→Calls Tryz.prog 72 #[.pointer (some ⟨b,0,none⟩),.int .i64 s.size] W (GrowTo w0 W b g st m):=fun he W hW=>
  grow_up w0 b g st m n s.size W hW ho.calm (hb1 he) (by omega) (by omega) (by omega) hnx (by omega) hs2 (by omega) (ho.fresh he)
 have hla':0≤m.end_ - lastOf m:=by omega
 obtain ⟨rm,hrm⟩:∃ rm,rm=roomR m:=⟨_,rfl⟩
 rw [←hrm] at hR hs hroom
 obtain ⟨la,hla⟩:∃ la:Int,la=lastOf m:=⟨_,rfl⟩
 obtain ⟨u,hu⟩:∃ u:Nat,(u:Int)=la:=⟨la.toNat,by omega⟩
 have hun:(lastOf m).toNat=u:=by omega
 have hW:∀ W g1,RowG w0 W b g1 (ps m st) (pm m)→Calls Tryz.prog 73 #[.pointer (some ⟨g1.d,0,none⟩),.string (nameB m.head u),.int .i64 (m.end_ - la),.string s] W (OpTo g1 8 (appS m st s) W):=fun W g1 hg1=>by
  have:=write_any g1 (ps m st) (nameB m.head u) (m.end_ - la) s W hg1.disk (by rw [nameB_size];unfold maxLen;omega) hcalm.good.fuse (by omega) hcalm.good.cap hcalm.good.size (by have:=hcalm.good.turn;omega) (fun f hf=>by
   have:=hcalm.good.within (by omega) (find_mem hf)
   exact ⟨this.2.1,this.2.2.1⟩)
  rw [hcalm.writeE (f:=f) (by rw [←hun];exact hf) (by rw [hla];exact hfl) (by rw [hcp,hsz];exact hcap),hb2] at this
  unfold appS
  rw [hun,←hla]
  exact this
 have hLs:∀ W g1,RowG w0 W b g1 (ps m st) (pm m)→Calls Tryz.prog 56 #[.pointer (some ⟨b,0,none⟩)] W fun e w'=>e = .returned (.int .i64 la)∧∃ q,w'=W.drewN q:=fun W g1 hg1=>by
  have hp1:0≤(pm m).next:=by unfold pm;split<;>(try simp only)<;>omega
  have hp2:(pm m).next≤1099511627776:=by unfold pm;split<;>(try simp only)<;>omega
  have hp3:(pm m).size=m.size:=by unfold pm;split<;>rfl
  have:=last_any b g1.d (pm m) W hg1.row hp1 (by omega) hp2 (by omega)
  rw [hla]
  exact this
 have hNm:∀ W g1,RowG w0 W b g1 (ps m st) (pm m)→Calls Tryz.prog 55 #[.pointer (some ⟨b,0,none⟩),.int .i64 la] W fun e w'=>e = .returned (.string (nameB m.head u))∧Below W.heap.size W w':=fun W g1 hg1=>by
  have hp3:(pm m).head=m.head:=by unfold pm;split<;>rfl
  have:=rname_any b g1.d (pm m) W hg1.row hg1.tab u (by omega) (by rw [hp3];omega)
  rw [hp3] at this
  rw [←hu]
  exact this
 have hz0:s.toList.isEmpty=false:=by
  rw [List.isEmpty_eq_false_iff]
  intro hx
  apply hs0
  rw [ByteArray.toList_eq] at hx
  have:=congrArg List.length hx
  rw [Array.length_toList] at this
  exact this
 have hkr:¬ rm<(s.size:Int):=by omega
 have H:=Lib.hid h
 have HR:=Lib.hid hR
 have HGR:=Lib.hid hG
 have HW:=Lib.hid hW
 have HLS:=Lib.hid hLs
 have HNM:=Lib.hid hNm
 have HLA:=Lib.hid hla
 have hslt:(s.size:Int)≤rm:=hs
 have hwr:IntKind.i64.wrap (m.end_ - la)=m.end_ - la:=IntWalk.i64_in _ (by omega)
 clear hR hG hW hLs hNm hla hun hu hf hfl hcalm hcp hsz hrm h ho hb1 hb2
 go_enter Tryz.func34,Tryz.ntmps34
 go_wp2_with (go_at_call 67;refine HR.out.mono ?_;rintro e wx ⟨rfl,q,rfl⟩)
 obtain ⟨c0,c1,c2,c3,c4,c5,c6,c7,hz⟩:=H.out.row.cell
 clear hz c0 c1 c2 c3 c6 c7
 by_cases he:m.end_=m.next
 case' pos=>
  have hb:(m.end_ == m.next)=true:=by simpa using he
  have HE:=Lib.hid he
  clear he
  go_quiet (fail)
  go_wp2_with (go_at_call 72;refine (HGR.out HE.out _ (H.out.drewN _)).mono ?_)
  rintro e wy ⟨rfl,g1,hg1,ht1⟩
  have hg1:RowG w0 wy b g1 (ps m st) (pm m):=by
   unfold ps pm
   rw [if_pos HE.out,if_pos HE.out]
   exact hg1
  have ht1:=(RowTo.new b g ((Chg.refl (fun _=>False) w).drewN _)).trans ht1
 case' neg=>
  have hb:(m.end_ == m.next)=false:=by simpa using he
  have HE:=Lib.hid he
  clear he
  go_quiet (fail)
  go_wp2_with fail
  generalize hwy:(w.drewN q).drewN _=wy
  obtain ⟨g1,hgq⟩:∃ g1,g1=g:=⟨_,rfl⟩
  have hg1:RowG w0 wy b g1 (ps m st) (pm m):=by
   unfold ps pm
   rw [if_neg HE.out,if_neg HE.out,←hwy,hgq]
   exact (H.out.drewN q).drewN _
  have ht1:RowTo w b g g1 wy:=by rw [←hwy,hgq];exact RowTo.new b g (((Chg.refl _ _).drewN _).drewN _)
  clear hwy hgq
 all_goals
  clear c4 c5
  obtain ⟨c0,c1,c2,c3,c4,c5,c6,c7,hz⟩:=hg1.row.cell
  have e4:(pm m).end_=m.end_:=by unfold pm;split<;>rfl
  rw [e4] at c4
  have HG1:=Lib.hid hg1
  have HT1:=Lib.hid ht1
  clear hg1 ht1 hz c1 c2 c3 c5 c6 c7 e4
  go_wp2_with fail
  go_quiet ((go_at_call 56;exact Calls.quiet_of (HLS.out _ g1 (HG1.out.drewN _))))
  go_wp2_with fail
  generalize hwz:wy.drewN _=wz
  have hgz:RowG w0 wz b g1 (ps m st) (pm m):=hwz▸HG1.out.drewN _
  have htz:RowTo w b g g1 wz:=HT1.out.trans (hwz▸RowTo.new b g1 ((Chg.refl _ _).drewN _))
  have k0:=hgz.row.cell.1
  have HGZ:=Lib.hid hgz
  have HTZ:=Lib.hid htz
  clear hgz htz hwz c0 c4 HG1 HT1
  go_region_held3 (fun w'=>w'.cell? ⟨b,0,none⟩=some (.pointer (some ⟨g1.d,0,none⟩)))
   (first|exact k0|go_keep)
   (first
    | (go_at_call 55
       ((with_reducible refine (HNM.out _ g1 ?_).mono ?_))
       ·repeat (first|exact HGZ.out|with_reducible refine RowG.drew ?_|with_reducible refine RowG.drewN ?_ _)
       rintro e w8 ⟨rfl,hb8⟩
       have hg8:=HGZ.out.drew.new (Chg.of_below (S:=fun _=>False) hb8)
       have k0:=hg8.row.cell.1
       have HT8:Hid (RowTo w b g g1 w8):=HTZ.out.trans (RowTo.new b g1 ((Chg.refl _ _).drew.trans (Chg.of_below hb8) (fun _ _ x=>x)))
       have HG8:=Lib.hid hg8
       clear hb8 hg8)
    | (go_at_call 73
       ((with_reducible refine (HW.out _ g1 ?_).mono ?_))
       ·repeat (first|exact HG8.out|with_reducible refine RowG.drew ?_|with_reducible refine RowG.drewN ?_ _)
       rintro e w9 ⟨rfl,g2,hd2,ht2⟩
       have hg9:=HG8.out.op hd2 ht2
       have k0:=hg9.1.row.cell.1
       rw [hg9.2.d] at k0
       have HG9:=Lib.hid hg9
       clear hd2 ht2 hg9))
  clear k0
  go_wp2_with fail
  go_ret2
  exact ⟨rfl,g2,pm m,HG9.out.1,HT8.out.trans HG9.out.2⟩
set_option maxHeartbeats 2000000 in
set_option maxRecDepth 100000 in
theorem append_none (w0:World) (b:Nat) (g:Gh) (st:St) (m:RowM) (s:ByteArray) (n:Nat) (w:World) (h:RowG w0 w b g st m) (ho:RowUp n m st) (he:m.end_=m.next) (hb1:burnE st=8) (hn:n≤1048575)
 (hs0:s.size≠0) (hs:(s.size:Int)≤roomR m) (hcap:s.size≤st.cap - st.size) :
 Calls Tryz.prog 34 #[.pointer (some ⟨b,0,none⟩),.string s] w (AppNo w0 w b g (createS st (nameB m.head m.next.toNat))):=by
 have he0:=ho.e0
 have hen:=ho.en
 have hnx:=ho.nx
 have hs1:=ho.s1
 have hs2:=ho.s2
 have hhd:=ho.head
 have hR:=rroom_any b g.d m w h.row he0 hen (by omega)
 rw [show (if m.end_=m.next then m.size else m.next - m.end_)=roomR m from rfl] at hR
 have hroom:roomR m≤4096:=by
  unfold roomR
  split
  ·exact hs2
  ·rename_i hne
   have:=(ho.last hne).2
   obtain ⟨f',_,hl'⟩:=this
   have:(0:Int)≤(f'.bytes.length:Int):=Int.natCast_nonneg _
   omega
 have hG:∀ W,RowG w0 W b g st m→Calls Tryz.prog 72 #[.pointer (some ⟨b,0,none⟩),.int .i64 s.size] W (GrowNo w0 W b g st m):=fun W hW=>
  grow_down w0 b g st m n s.size W hW ho.calm hb1 (by omega) (by omega) (by omega) hnx (by omega) hs2 (by omega) (ho.fresh he)
 obtain ⟨rm,hrm⟩:∃ rm,rm=roomR m:=⟨_,rfl⟩
 rw [←hrm] at hR hs hroom
 have hz0:s.toList.isEmpty=false:=by
  rw [List.isEmpty_eq_false_iff]
  intro hx
  apply hs0
  rw [ByteArray.toList_eq] at hx
  have:=congrArg List.length hx
  rw [Array.length_toList] at this
  exact this
 have hkr:¬ rm<(s.size:Int):=by omega
 have H:=Lib.hid h
 have HR:=Lib.hid hR
 have HGR:=Lib.hid hG
 have hslt:(s.size:Int)≤rm:=hs
 clear hR hG hrm h ho hb1
 go_enter Tryz.func34,Tryz.ntmps34
 go_wp2_with (go_at_call 67;refine HR.out.mono ?_;rintro e wx ⟨rfl,q,rfl⟩)
 obtain ⟨c0,c1,c2,c3,c4,c5,c6,c7,hz⟩:=H.out.row.cell
 clear hz c0 c1 c2 c3 c6 c7
 have hb:(m.end_ == m.next)=true:=by simpa using he
 have HE:=Lib.hid he
 clear he
 go_quiet (fail)
 go_wp2_with (go_at_call 72;refine (HGR.out _ (H.out.drewN _)).mono ?_)
 rintro e wy ⟨rfl,g1,hg1,ht1⟩
 have ht1:=(RowTo.new b g ((Chg.refl (fun _=>False) w).drewN _)).trans ht1
 have HG1:=Lib.hid hg1
 have HT1:=Lib.hid ht1
 clear hg1 ht1 c4 c5
 go_wp2_with fail
 go_ret2
 exact ⟨rfl,g1,m,HG1.out,HT1.out⟩
end Go.Proofs.YtnemlgfldfedpaaGreatDoor
namespace Go.Proofs.YtnemlgfldfedpaaGreatDoor
open Go.RowKit Go.Deep
def calmS (st:St):St:={ st with lit:=false,left:=0 }
structure RowU (n:Nat) (m:RowM) (st:St) (z i0 j:Nat) (all:List UInt8):Prop where
 c:RowC n m (calmS st) z i0 j all
 up:Up n st
theorem RowU.rowUp {n:Nat} {m:RowM} {st:St} {z i0 j:Nat} {all:List UInt8} (h:RowU n m st z i0 j all):RowUp n m st:=by
 have k:=h.c.row.rowOk
 exact ⟨h.up,k.beg,k.e0,k.en,k.nx,k.s1,k.s2,k.head,k.fresh,k.last⟩
theorem calm_create {n:Nat} {st:St} (h:Up n st) (hc:Calm n (calmS st)) {nm:ByteArray} (hf:st.find nm=none) (hb:burnE st=0):calmS (createS st nm)=createS (calmS st) nm:=by
 rw [h.createS hf hb,hc.createS hf]
 unfold calmS burnS
 split
 ·split
  ·rename_i h1 h2
   unfold burnE at hb
   rw [if_pos ⟨h1,h2⟩] at hb
   exact absurd hb (by decide)
  ·rfl
 ·rfl
theorem calm_write {n:Nat} {st:St} (h:Up n st) (hc:Calm n (calmS st)) {nm:ByteArray} {f:FileM} {a:Int} {s:ByteArray} (hf:st.find nm=some f) (ha:a=f.bytes.length) (hm:s.size≤st.cap - st.size) (h0:s.size≠0) (hb:burnE st=0):calmS (writeS st nm a s)=writeS (calmS st) nm a s:=by
 rw [h.writeS hf ha hm h0 hb,hc.writeS (st:=calmS st) hf ha hm h0]
 unfold calmS burnS
 split
 ·split
  ·rename_i h1 h2
   unfold burnE at hb
   rw [if_pos ⟨h1,h2⟩] at hb
   exact absurd hb (by decide)
  ·rfl
 ·rfl
theorem burnS_8 {st:St} (h:burnE st=8):(burnS st).down=true:=by
 unfold burnE at h
 unfold burnS
 by_cases h1:st.lit=true∧st.left=0
 ·rw [if_pos h1.1,if_pos h1.2]
 ·rw [if_neg h1] at h;exact absurd h (by decide)
structure DownS (m:RowM) (st st':St):Prop where
 down:st'.down=true
 cap:st'.cap=st.cap
 size:st'.size=st.size
 turn:st'.turn=st.turn
 fs:st'.fs=st.fs∨(m.end_=m.next∧st'.fs=st.fs ++ [(nameB m.head m.next.toNat,emptyF)])
 fuse:FuseOk st'
theorem calm_ps {n:Nat} {m:RowM} {st:St} {z i0 j:Nat} {all:List UInt8} (h:RowU n m st z i0 j all) (hb:m.end_=m.next→burnE st=0):calmS (ps m st)=ps m (calmS st):=by
 unfold ps
 by_cases he:m.end_=m.next
 ·rw [if_pos he,if_pos he]
  exact calm_create h.up h.c.row.calm (h.rowUp.fresh he) (hb he)
 ·rw [if_neg he,if_neg he]
theorem RowU.app {n:Nat} {m:RowM} {st:St} {z i0 j:Nat} {all:List UInt8} (h:RowU n m st z i0 j all) (s:ByteArray) (hs0:s.size≠0) (hs:(s.size:Int)≤roomR m) (hcap:s.size≤st.cap - st.size) (hroom:z*(j+1)≤99000000) (hb1:m.end_=m.next→burnE st=0) (hb2:burnE (ps m st)=0) :
 RowU (n+2) (appM m s.size) (appS m st s) z i0 (if z*i0+all.length=z*j then j+1 else j) (all ++ s.data.toList)∧(appS m st s).size=st.size+s.size∧(appS m st s).cap=st.cap:=by
 obtain ⟨hk,hsz,hcp⟩:=h.c.append s hs0 hs hcap hroom
 obtain ⟨hup,k1,k2,k3,k4,k5,f,hf,hl⟩:=h.rowUp.pre hb1
 have hps:=calm_ps h hb1
 have hcl:Calm (n+1) (calmS (ps m st)):=by
  rw [hps]
  exact (h.c.row.rowOk.pre).1
 have e:calmS (appS m st s)=appS m (calmS st) s:=by
  unfold appS
  rw [←hps]
  exact calm_write hup hcl hf hl (by rw [k1,k2];exact hcap) hs0 hb2
 rw [←e] at hk hsz hcp
 exact ⟨⟨hk,hup.write hf hl (by rw [k1,k2];exact hcap) hs0 hb2⟩,hsz,hcp⟩
theorem c_append_u {w0 w:World} {b:Nat} {g:Gh} {st:St} {m:RowM} {n z i0 j:Nat} {all:List UInt8} (hg:RowG w0 w b g st m) (h:RowU n m st z i0 j all) (hn:n≤1000) (s:ByteArray) (hs0:s.size≠0) (hs:(s.size:Int)≤roomR m) (hcap:s.size≤st.cap - st.size) (hroom:z*(j+1)≤99000000) :
 ((m.end_=m.next→burnE st=0)∧burnE (ps m st)=0∧Calls Tryz.prog 34 #[.pointer (some ⟨b,0,none⟩),.string s] w fun e w'=>e = .returned (.tuple #[.int .i64 ((z*i0+all.length:Nat):Int),.int .i64 0])∧∃ g',RowG w0 w' b g' (appS m st s) (appM m s.size)∧RowTo w b g g' w') ∨
 ∃ st',DownS m st st'∧Calls Tryz.prog 34 #[.pointer (some ⟨b,0,none⟩),.string s] w (AppNo w0 w b g st'):=by
 have hu:=h.rowUp
 by_cases hx:m.end_=m.next∧burnE st=8
 ·right
  refine ⟨_,?_,append_none w0 b g st m s n w hg hu hx.1 hx.2 (by omega) hs0 hs hcap⟩
  have e:createS st (nameB m.head m.next.toNat)=burnS st:=by
   unfold createS
   rw [if_neg (by rw [h.up.down];simp),if_neg (by rw [hu.fresh hx.1];simp),if_neg (by rw [hx.2];decide)]
  rw [e]
  obtain ⟨e1,e2,e3,e4⟩:=burnS_same st
  exact ⟨burnS_8 hx.2,e1,e2,e3,.inl e4,h.up.good.fuse.burn⟩
 ·have hb1:m.end_=m.next→burnE st=0:=fun he=>(burn_two st).resolve_right fun h8=>hx ⟨he,h8⟩
  rcases burn_two (ps m st) with hb2|hb2
  ·left
   refine ⟨hb1,hb2,(append_up w0 b g st m s n w hg hu hb1 hb2 (by omega) hs0 hs hcap).mono ?_⟩
   rintro e w' ⟨rfl,g',hg',hto⟩
   exact ⟨by rw [h.c.row.end_],g',hg',hto⟩
  ·right
   refine ⟨_,?_,append_down w0 b g st m s n w hg hu hb1 hb2 (by omega) hs0 hs hcap⟩
   obtain ⟨hup,k1,k2,k3,k4,k5,f,hf,hl⟩:=hu.pre hb1
   have e:appS m st s=burnS (ps m st):=by
    unfold appS writeS
    have hmo:more f (m.end_ - lastOf m).toNat s.size=s.size:=by unfold more;omega
    rw [if_neg (by rw [hup.down];simp),hf]
    simp only
    rw [if_neg (by omega),if_neg (by rw [hmo];omega),if_neg (by rw [hb2];decide)]
   rw [e]
   obtain ⟨e1,e2,e3,e4⟩:=burnS_same (ps m st)
   refine ⟨burnS_8 hb2,e1.trans k1,e2.trans k2,?_,?_,hup.good.fuse.burn⟩
   ·rw [e3]
    unfold ps
    split
    ·rename_i he
     rw [h.up.createS (hu.fresh he) (hb1 he)]
     exact (burnS_same st).2.2.1
    ·rfl
   ·rw [e4]
    unfold ps
    split
    ·rename_i he
     rw [h.up.createS (hu.fresh he) (hb1 he)]
     exact .inr ⟨he,rfl⟩
    ·exact .inl rfl
def ChainW:Nat→List WriteM→List UInt8→Prop
 | a,[],bs=>a=bs.length
 | a,x :: ws,bs=>x.at_=a∧0<x.s.size∧a+x.s.size≤bs.length∧(bs.drop a).take x.s.size=x.s.data.toList∧ChainW (a+x.s.size) ws bs
inductive KeptW:List WriteM→List WriteM→Prop
 | nil (ws):KeptW ws []
 | skip {x ws K}:KeptW ws K→KeptW (x :: ws) K
 | keep {x ws K}:KeptW ws K→KeptW (x :: ws) (x :: K)
 | cut {x y ws}:y.at_=x.at_→y.s.size≤x.s.size→y.s.data.toList=x.s.data.toList.take y.s.size→KeptW (x :: ws) [y]
def sumW (ws:List WriteM):Nat:=(ws.map fun x=>x.s.size).sum
structure StopW (a:Nat) (ws:List WriteM) (bs c:List UInt8) (j:Nat):Prop where
 le:j≤ws.length
 in_:a+sumW (ws.take j)≤c.length
 high:c.length≤bs.length
 same:c.take (a+sumW (ws.take j))=bs.take (a+sumW (ws.take j))
 stop:c.length=a+sumW (ws.take j)∨c[a+sumW (ws.take j)]? = some 0∨∃ x,ws[j]? = some x∧c.length<a+sumW (ws.take j)+x.s.size∧c=bs.take c.length
theorem ChainW.le:∀ {ws:List WriteM} {a:Nat} {bs:List UInt8},ChainW a ws bs→a≤bs.length
 | [],a,bs,h=>Nat.le_of_eq h
 | x :: ws,a,bs,h=>by have:=h.2.2.1;omega
theorem ChainW.mem:∀ {ws:List WriteM} {a:Nat} {bs:List UInt8},ChainW a ws bs→∀ x∈ws,a≤x.at_∧x.at_+x.s.size≤bs.length
 | [],a,bs,h,x,hx=>by cases hx
 | y :: ws,a,bs,h,x,hx=>by
  obtain ⟨h1,h2,h3,h4,h5⟩:=h
  rcases List.mem_cons.1 hx with e|e
  ·subst e;omega
  ·have:=h5.mem x e;omega
theorem KeptW.mem {ws K:List WriteM} (h:KeptW ws K):∀ y∈K,∃ x∈ws,y.at_=x.at_∧y.s.size≤x.s.size:=by
 induction h with
 | nil ws=>intro y hy;cases hy
 | skip h ih=>intro y hy;obtain ⟨x,a,b⟩:=ih y hy;exact ⟨x,List.mem_cons_of_mem _ a,b⟩
 | keep h ih=>
  intro y hy
  rcases List.mem_cons.1 hy with e|e
  ·exact ⟨_,List.mem_cons_self ..,by rw [e],by rw [e];exact Nat.le_refl _⟩
  ·obtain ⟨x,a,b⟩:=ih y e;exact ⟨x,List.mem_cons_of_mem _ a,b⟩
 | cut h1 h2 h3=>
  intro y hy
  rw [List.mem_singleton.1 hy]
  exact ⟨_,List.mem_cons_self ..,h1,h2⟩
theorem fold_hole (t N:Nat):∀ (K:List WriteM) (c:List UInt8),(∀ y∈K,t<y.at_∧y.at_+y.s.size≤N)→t≤c.length→c.length≤N→(c.length=t∨c[t]? = some 0) →
 (K.foldl (fun c x=>putB c x.at_ x.s.data.toList) c).take t=c.take t∧t≤(K.foldl (fun c x=>putB c x.at_ x.s.data.toList) c).length∧(K.foldl (fun c x=>putB c x.at_ x.s.data.toList) c).length≤N ∧
  ((K.foldl (fun c x=>putB c x.at_ x.s.data.toList) c).length=t∨(K.foldl (fun c x=>putB c x.at_ x.s.data.toList) c)[t]? = some 0)
 | [],c,_,h1,h2,h3=>⟨rfl,h1,h2,h3⟩
 | y :: K,c,hK,h1,h2,h3=>by
  rw [List.foldl_cons]
  obtain ⟨k1,k2⟩:=hK y (List.mem_cons_self ..)
  have hl:=size_toList y.s
  by_cases hs:y.s.data.toList=[]
  ·rw [hs,putB_nil]
   exact fold_hole t N K c (fun z hz=>hK z (List.mem_cons_of_mem _ hz)) h1 h2 h3
  ·have hlen:=putB_length c y.at_ _ hs
   have hp:=List.length_pos_iff.2 hs
   have hg:(putB c y.at_ y.s.data.toList)[t]? = some 0:=by
    rw [putB_get c y.at_ _ hs,if_pos k1]
    rcases h3 with h|h
    ·rw [if_neg (by omega)]
    ·rw [if_pos (List.getElem?_eq_some_iff.1 h).1];exact h
   have ht:(putB c y.at_ y.s.data.toList).take t=c.take t:=by
    refine List.ext_getElem? fun i=>?_
    by_cases hi:i<t
    ·rw [List.getElem?_take_of_lt hi,List.getElem?_take_of_lt hi,putB_get c y.at_ _ hs,if_pos (by omega),if_pos (by omega)]
    ·rw [List.getElem?_eq_none (by rw [List.length_take];omega),List.getElem?_eq_none (by rw [List.length_take];omega)]
   obtain ⟨e1,e2,e3,e4⟩:=fold_hole t N K (putB c y.at_ y.s.data.toList) (fun z hz=>hK z (List.mem_cons_of_mem _ hz)) (by omega) (by omega) (.inr hg)
   exact ⟨e1.trans ht,e2,e3,e4⟩
theorem fold_stop {bs:List UInt8} {ws K:List WriteM} (hk:KeptW ws K):∀ (c:List UInt8),c=bs.take c.length→ChainW c.length ws bs →
 ∃ j,StopW c.length ws bs (K.foldl (fun c x=>putB c x.at_ x.s.data.toList) c) j:=by
 induction hk with
 | nil ws=>
  intro c hc hw
  exact ⟨0,Nat.zero_le _,by simp [sumW],hw.le,by simp [sumW];exact hc,.inl (by simp [sumW])⟩
 | @skip x ws K h ih=>
  intro c hc hw
  obtain ⟨h1,h2,h3,h4,h5⟩:=hw
  have hm:=h.mem
  obtain ⟨e1,e2,e3,e4⟩:=fold_hole c.length bs.length K c (fun y hy=>by
   obtain ⟨z,a,b,d⟩:=hm y hy
   have:=h5.mem z a
   omega) (Nat.le_refl _) (by omega) (.inl rfl)
  refine ⟨0,Nat.zero_le _,by simpa [sumW] using e2,e3,?_,?_⟩
  ·simp only [List.take_zero,sumW,List.map_nil,List.sum_nil,Nat.add_zero]
   rw [e1,List.take_length];exact hc
  ·simp only [List.take_zero,sumW,List.map_nil,List.sum_nil,Nat.add_zero]
   rcases e4 with e|e
   ·exact .inl e
   ·exact .inr (.inl e)
 | @keep x ws K h ih=>
  intro c hc hw
  obtain ⟨h1,h2,h3,h4,h5⟩:=hw
  have hl:=size_toList x.s
  rw [List.foldl_cons,h1,putB_end]
  have hcl:(c ++ x.s.data.toList).length=c.length+x.s.size:=by rw [List.length_append,hl]
  obtain ⟨j,q1,q2,q3,q4,q5⟩:=ih (c ++ x.s.data.toList) (by
   rw [hcl,List.take_add,h4,←hc]) (by rw [hcl];exact h5)
  have hsum:sumW ((x :: ws).take (j+1))=x.s.size+sumW (ws.take j):=by simp [sumW]
  rw [hcl] at q2 q4 q5
  refine ⟨j+1,by simpa using q1,by rw [hsum];omega,q3,by rw [hsum,←Nat.add_assoc];exact q4,?_⟩
  rw [hsum,←Nat.add_assoc]
  simpa using q5
 | @cut x y ws k1 k2 k3=>
  intro c hc hw
  obtain ⟨h1,h2,h3,h4,h5⟩:=hw
  have hl:=size_toList x.s
  have hly:=size_toList y.s
  rw [List.foldl_cons,List.foldl_nil,k1,h1,putB_end]
  have hcl:(c ++ y.s.data.toList).length=c.length+y.s.size:=by rw [List.length_append,hly]
  have hpre:c ++ y.s.data.toList=bs.take (c.length+y.s.size):=by
   rw [List.take_add,←hc,k3,←h4,List.take_take,Nat.min_eq_left k2]
  by_cases hfull:y.s.size=x.s.size
  ·refine ⟨1,by simp,?_,by omega,?_,.inl ?_⟩
   ·simp [sumW];omega
   ·rw [hpre,List.take_take]
    simp [sumW];omega
   ·simp [sumW];omega
  ·refine ⟨0,Nat.zero_le _,by simp [sumW],by omega,?_,.inr (.inr ⟨x,rfl,?_,?_⟩)⟩
   ·simp only [List.take_zero,sumW,List.map_nil,List.sum_nil,Nat.add_zero]
    rw [List.take_left];exact hc
   ·simp only [List.take_zero,sumW,List.map_nil,List.sum_nil,Nat.add_zero]
    omega
   ·rw [hcl];exact hpre
theorem kept_none {K:List WriteM} (h:KeptW [] K):K=[]:=by cases h;rfl
theorem kept_sub {ws K:List WriteM} (h:K.Sublist ws):KeptW ws K:=by
 induction h with
 | slnil=>exact .nil _
 | cons x h ih=>exact .skip ih
 | cons_cons x h ih=>exact .keep ih
theorem kept_cut {x y:WriteM} (h1:y.at_=x.at_) (h2:y.s.size≤x.s.size) (h3:y.s.data.toList=x.s.data.toList.take y.s.size):∀ {ws K:List WriteM},(K ++ [x]).Sublist ws→KeptW ws (K ++ [y])
 | [],K,h=>by
  have:=h.length_le
  simp at this
 | z :: ws,[],h=>by
  rcases List.sublist_cons_iff.1 h with h|⟨r,hr,h⟩
  ·exact .skip (kept_cut (K:=[]) h1 h2 h3 h)
  ·rw [List.nil_append] at hr
   injection hr with e _
   subst e
   exact .cut h1 h2 h3
 | z :: ws,k :: K,h=>by
  rcases List.sublist_cons_iff.1 h with h|⟨r,hr,h⟩
  ·exact .skip (kept_cut (K:=k :: K) h1 h2 h3 h)
  ·rw [List.cons_append] at hr
   injection hr with e e2
   subst e e2
   exact .keep (kept_cut h1 h2 h3 h)
theorem wait_one:∀ {es:List Ent} {e:Ent},(es.map (·.blk)).Nodup→e∈es→((waitsOf es).filter fun z=>decide (z.to_=e.blk)).map (·.x)=e.f.writes
 | [],e,_,h=>by cases h
 | a :: es,e,hn,h=>by
  have hw:waitsOf (a :: es)=waitsE1 a ++ waitsOf es:=by unfold waitsOf;rw [List.flatMap_cons]
  rw [List.map_cons,List.nodup_cons] at hn
  rw [hw,List.filter_append,List.map_append]
  rcases List.mem_cons.1 h with e1|e1
  ·subst e1
   have h1:(waitsE1 e).filter (fun z=>decide (z.to_=e.blk))=waitsE1 e:=by
    rw [List.filter_eq_self]
    intro z hz
    unfold waitsE1 at hz
    obtain ⟨x,_,rfl⟩:=List.mem_map.1 hz
    simp
   have h2:(waitsOf es).filter (fun z=>decide (z.to_=e.blk))=[]:=by
    rw [List.filter_eq_nil_iff]
    intro z hz
    obtain ⟨b,hb,h3,_⟩:=waits_mem hz
    simp only [decide_eq_true_eq]
    intro h4
    exact hn.1 (h4▸h3▸List.mem_map_of_mem hb)
   rw [h1,h2]
   unfold waitsE1
   rw [List.map_map,List.map_nil,List.append_nil]
   exact List.map_id _
  ·have h1:(waitsE1 a).filter (fun z=>decide (z.to_=e.blk))=[]:=by
    rw [List.filter_eq_nil_iff]
    intro z hz
    unfold waitsE1 at hz
    obtain ⟨x,_,rfl⟩:=List.mem_map.1 hz
    simp only [decide_eq_true_eq]
    intro h4
    exact hn.1 (h4▸List.mem_map_of_mem e1)
   rw [h1,List.map_nil,List.nil_append]
   exact wait_one hn.2 e1
theorem blks_nodup {n:Nat} {w:World} {g:Gh} {st:St} (hd:DiskAt w g st) (hg:Good n st):(g.es.map (·.blk)).Nodup:=by
 have hn:=hg.names
 rw [←hd.fs,List.map_map] at hn
 have hp:=List.pairwise_map.1 hn
 rw [List.nodup_iff_pairwise_ne,List.pairwise_map]
 refine hp.imp_of_mem fun {a b} ha hb h e=>?_
 have:=blk_one hd ha hb e
 exact h (by rw [this])
theorem keep_subl (l:List WaitM) (bs:List Bool):(keepL l bs).Sublist l:=by
 unfold keepL
 have h1:((l.zip bs).filter (·.2)).Sublist (l.zip bs):=List.filter_sublist
 refine (h1.map (·.1)).trans ?_
 clear h1
 induction l generalizing bs with
 | nil=>simp
 | cons z l ih=>
  cases bs with
  | nil=>simp
  | cons b bs=>simpa using ih bs
theorem kept_file {n:Nat} {w:World} {g:Gh} {st:St} {ws:List WaitM} (hd:DiskAt w g st) (hg:Good n st) (hp:ws.Perm (waitsOf g.es)) (hs:Sorted ws) (bs:List Bool) (lack:Int) {e:Ent} (he:e∈g.es)
 (ht:e.f.writes.Pairwise fun a b=>a.turn<b.turn) :
 KeptW e.f.writes (((cutLast (keepL ws bs) lack).filter fun z=>decide (z.to_=e.blk)).map (·.x)):=by
 have hw:(ws.filter fun z=>decide (z.to_=e.blk)).map (·.x)=e.f.writes:=by
  have h1:=(hp.filter fun z=>decide (z.to_=e.blk)).map (·.x)
  rw [wait_one (blks_nodup hd hg) he] at h1
  refine h1.eq_of_pairwise (le:=fun a b=>a.turn≤b.turn) (fun a b ha hb hab hba=>?_) ?_ (ht.imp fun h=>by omega)
  ·have ha:=h1.mem_iff.1 ha
   rcases Classical.em (a=b) with h|h
   ·exact h
   ·exfalso
    obtain ⟨i,hi⟩:=List.mem_iff_getElem?.1 ha
    obtain ⟨j,hj⟩:=List.mem_iff_getElem?.1 hb
    obtain ⟨hi1,hi2⟩:=List.getElem?_eq_some_iff.1 hi
    obtain ⟨hj1,hj2⟩:=List.getElem?_eq_some_iff.1 hj
    rcases Nat.lt_trichotomy i j with k|k|k
    ·have:=List.pairwise_iff_getElem.1 ht i j hi1 hj1 k
     rw [hi2,hj2] at this;omega
    ·subst k
     rw [hi] at hj
     injection hj with hj
     exact h hj
    ·have:=List.pairwise_iff_getElem.1 ht j i hj1 hi1 k
     rw [hi2,hj2] at this;omega
  ·rw [List.pairwise_map]
   exact hs.filter _
 have hsub:=((keep_subl ws bs).filter fun z=>decide (z.to_=e.blk)).map (·.x)
 rw [hw] at hsub
 rcases List.eq_nil_or_concat (keepL ws bs) with h0|⟨d0,z,h0⟩
 ·rw [h0,cutLast_nil]
  exact .nil _
 ·rw [List.concat_eq_append] at h0
  rw [h0,List.filter_append,List.map_append] at hsub
  rw [h0,cutLast_snoc,List.filter_append,List.map_append]
  by_cases hz:z.to_=e.blk
  ·rw [List.filter_cons_of_pos (by simpa using hz),List.filter_nil,List.map_cons,List.map_nil] at hsub ⊢
   refine kept_cut (x:=z.x) (y:=lackX z.x lack) rfl ?_ ?_ hsub
   ·show (lackX z.x lack).s.size≤_
    unfold lackX
    simp only
    rw [ByteArray.size_extract]
    omega
   ·show (lackX z.x lack).s.data.toList=_
    unfold lackX
    simp only
    rw [ByteArray.data_extract,ByteArray.size_extract,Array.toList_extract]
    simp [List.extract]
  ·rw [List.filter_cons_of_neg (by simpa using hz),List.filter_nil,List.map_nil,List.append_nil] at hsub ⊢
   exact kept_sub hsub
theorem fold_img (blk:Nat):∀ (d:List WaitM) (q:Sk),q.2.1=blk→(d.foldl (fun q z=>img1 z q) q).2.2.image=(((d.filter fun z=>decide (z.to_=blk)).map (·.x)).foldl (fun c x=>putB c x.at_ x.s.data.toList) q.2.2.image)∧(d.foldl (fun q z=>img1 z q) q).1=q.1∧(d.foldl (fun q z=>img1 z q) q).2.2.bytes=q.2.2.bytes∧(d.foldl (fun q z=>img1 z q) q).2.2.writes=q.2.2.writes
 | [],q,_=>⟨rfl,rfl,rfl,rfl⟩
 | z :: d,q,hb=>by
  rw [List.foldl_cons]
  by_cases hz:q.2.1=z.to_
  ·rw [img1_eq hz,List.filter_cons_of_pos (by simp;omega),List.map_cons,List.foldl_cons]
   exact fold_img blk d (q.1,q.2.1,imgF q.2.2 z.x) hb
  ·rw [img1_ne hz,List.filter_cons_of_neg (by simp;omega)]
   exact fold_img blk d q hb
structure PieceF (f:FileM):Prop where
 img:f.image=f.bytes.take f.image.length
 chain:ChainW f.image.length f.writes f.bytes
 turns:f.writes.Pairwise fun a b=>a.turn<b.turn
theorem StopW.all {a:Nat} {bs:List UInt8} (h:a=bs.length):StopW a [] bs bs 0:=
 ⟨Nat.le_refl _,by simp [sumW];omega,Nat.le_refl _,rfl,.inl (by simp [sumW];omega)⟩
theorem crash_file {n:Nat} {w:World} {g:Gh} {st:St} {ws:List WaitM} (hd:DiskAt w g st) (hg:Good n st) (hp:ws.Perm (waitsOf g.es)) (hs:Sorted ws) (bs:List Bool) (lack:Int) {e:Ent} (he:e∈g.es) (hf:PieceF e.f) :
 ∃ c:FileM,(e.name,c)∈(crashS st (imgs (g.es.map skel) (cutLast (keepL ws bs) lack))).fs∧c.writes=[]∧c.image=c.bytes∧∃ j,StopW e.f.image.length e.f.writes e.f.bytes c.bytes j:=by
 have hk:=kept_file hd hg hp hs bs lack he hf.turns
 obtain ⟨q1,q2,q3,q4⟩:=fold_img e.blk (cutLast (keepL ws bs) lack) (skel e) rfl
 obtain ⟨j,hj⟩:=fold_stop hk e.f.image hf.img hf.chain
 have q1':((cutLast (keepL ws bs) lack).foldl (fun q z=>img1 z q) (skel e)).2.2.image=(((cutLast (keepL ws bs) lack).filter fun z=>decide (z.to_=e.blk)).map (·.x)).foldl (fun c x=>putB c x.at_ x.s.data.toList) e.f.image:=q1
 rw [←q1'] at hj
 refine ⟨loseF ((cutLast (keepL ws bs) lack).foldl (fun q z=>img1 z q) (skel e)).2.2,?_,lose_nil _,?_,?_⟩
 ·show _∈((imgs (g.es.map skel) (cutLast (keepL ws bs) lack)).map fun p=>(p.1,loseF p.2.2))
  rw [imgs_map,List.map_map,List.map_map]
  refine List.mem_map.2 ⟨e,he,?_⟩
  show ((((cutLast (keepL ws bs) lack).foldl (fun q z=>img1 z q) (skel e)).1,loseF _))=_
  rw [q2]
  rfl
 ·unfold loseF
  split
  ·rename_i h
   rw [q4] at h
   have hw:e.f.writes=[]:=h
   have hc:=hf.chain
   rw [hw] at hc hk
   have hkn:((cutLast (keepL ws bs) lack).filter fun z=>decide (z.to_=e.blk)).map (·.x)=[]:=by
    exact kept_none hk
   rw [q1,q3,hkn]
   show e.f.image=e.f.bytes
   have hc2:e.f.image.length=e.f.bytes.length:=hc
   rw [hf.img,hc2,List.take_length]
  ·rfl
 ·unfold loseF
  split
  ·rename_i h
   rw [q4] at h
   have hw:e.f.writes=[]:=h
   have hc:=hf.chain
   rw [hw] at hc ⊢
   refine ⟨0,?_⟩
   rw [q3]
   exact StopW.all hc
  ·exact ⟨j,hj⟩
theorem c_read_in {w0 w:World} {b:Nat} {g:Gh} {st:St} {m:RowM} {n z i0 j:Nat} {all:List UInt8} (k1:RowG w0 w b g st m) (k6:RowC n m st z i0 j all) (a k:Nat) (hk:0<k) (h1:z*i0≤a) (h2:a+k≤z*i0+all.length) (h3:k≤z - a % z) :
 Calls Tryz.prog 44 #[.pointer (some ⟨b,0,none⟩),.int .i64 a,.int .i64 k] w fun e w'=>e = .returned (.tuple #[.string ⟨((all.drop (a - z*i0)).take k).toArray⟩,.int .i64 0])∧Below w.heap.size w w':=by
 have a1:=k6.row.end_
 have a2:=k6.row.beg
 have a3:=k6.row.size
 have a4:=k6.row.z1
 have a5:=k6.row.z2
 have a6:=k6.row.e1
 have a7:=k6.row.room
 have hdm:=Nat.div_add_mod a z
 have hml:=Nat.mod_lt a (show 0<z by omega)
 obtain ⟨i,hi⟩:∃ i,i=a / z:=⟨_,rfl⟩
 rw [←hi] at hdm
 have hi0:i0≤i:=by rw [hi];exact (Nat.le_div_iff_mul_le (by omega)).2 (by rw [Nat.mul_comm];exact h1)
 have hij:i<j:=by rw [hi];exact (Nat.div_lt_iff_lt_mul (by omega)).2 (by rw [Nat.mul_comm];omega)
 have hzi:z*i0≤z*i:=Nat.mul_le_mul_left z hi0
 obtain ⟨f,hf,hfb⟩:=k6.ch i hi0 hij
 have hfl:f.bytes.length=min z (all.length - (z*i - z*i0)):=by rw [hfb,List.length_take,List.length_drop]
 have hmod:(a:Int) % (z:Int)=((a % z:Nat):Int):=(Int.natCast_emod a z).symm
 have hleft:(k:Int)≤leftR m a:=by
  unfold leftR
  rw [a1,a2,a3,hmod]
  split<;>omega
 have hc:=rread_ok w0 b g st m a k (z*i) f w k1 k6.row.calm.down (by omega) (by omega) (by omega) (by omega) (by have:=k6.row.head;omega) hk hleft (by rw [a3,hmod];omega) hf (by omega) (by omega)
 have hb:((f.bytes.drop (a - z*i)).take k)=(all.drop (a - z*i0)).take k:=by
  rw [hfb,List.drop_take,List.take_take,List.drop_drop,show min k (z - (a - z*i))=k from by omega,show z*i - z*i0+(a - z*i)=a - z*i0 from by omega]
 rw [hb] at hc
 exact hc
end Go.Proofs.YtnemlgfldfedpaaGreatDoor
