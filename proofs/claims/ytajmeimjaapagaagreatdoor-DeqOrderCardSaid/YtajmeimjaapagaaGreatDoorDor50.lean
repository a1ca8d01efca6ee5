/- A part. -/
import Derived.Test.YtajmeimjaapagaaGreatDoorDor39
import Derived.Test.YtajmeimjaapagaaGreatDoorDor41
set_option linter.unusedVariables false
set_option linter.unusedSimpArgs false
namespace Go.Proofs.YtajmeimjaapagaaGreatDoor
open Go.RowKit Go.Deep
structure RowM where
 head:ByteArray
 size:Int
 begin_:Int
 end_:Int
 next:Int
 synced:Int
 touched:Int
def RowM.cells (m:RowM) (d:Nat):Array Value:=#[.pointer (some ⟨d,0,none⟩),.string m.head,.int .i64 m.size,.int .i64 m.begin_,.int .i64 m.end_,.int .i64 m.next,.int .i64 m.synced,.int .i64 m.touched]
def RowAt (w:World) (b d:Nat) (m:RowM):Prop:=w.heap[b]? = some (.cells (m.cells d) 157 (0,0))
theorem RowAt.lt {w:World} {b d:Nat} {m:RowM} (h:RowAt w b d m):b<w.heap.size:=(Array.getElem?_eq_some_iff.1 h).1
theorem RowAt.chg {S:Nat→Prop} {w w':World} {b d:Nat} {m:RowM} (h:RowAt w b d m) (hc:Chg S w w') (hn:¬ S b):RowAt w' b d m:=hc.heap h hn
theorem RowAt.cell {w:World} {b d:Nat} {m:RowM} (h:RowAt w b d m):w.cell? ⟨b,0,none⟩=some (.pointer (some ⟨d,0,none⟩))∧w.cell? ⟨b,1,none⟩=some (.string m.head)∧w.cell? ⟨b,2,none⟩=some (.int .i64 m.size) ∧
 w.cell? ⟨b,3,none⟩=some (.int .i64 m.begin_)∧w.cell? ⟨b,4,none⟩=some (.int .i64 m.end_)∧w.cell? ⟨b,5,none⟩=some (.int .i64 m.next)∧w.cell? ⟨b,6,none⟩=some (.int .i64 m.synced)∧w.cell? ⟨b,7,none⟩=some (.int .i64 m.touched) ∧
 ∀ i,w.frozen? ⟨b,i,none⟩=false:=by
 unfold RowAt RowM.cells at h
 refine ⟨?_,?_,?_,?_,?_,?_,?_,?_,fun i=>?_⟩<;>simp [World.cell?,World.frozen?,h]
theorem RowAt.set {w:World} {b d:Nat} {m:RowM} (h:RowAt w b d m) (i:Nat) (v:Value) (m':RowM) (hc:(m.cells d).setIfInBounds i v=m'.cells d):RowAt (w.setCell ⟨b,i,none⟩ v) b d m':=by
 unfold RowAt
 rw [←hc]
 exact heap_setCell_same w b i _ _ v h
structure RowTo (w:World) (b:Nat) (g g':Gh) (w':World):Prop where
 chg:Chg (fun k=>k=b∨k∈g.fp) w w'
 fp:∀ k∈g'.fp,k∈g.fp∨w.heap.size≤k
 d:g'.d=g.d
theorem RowTo.refl (w:World) (b:Nat) (g:Gh):RowTo w b g g w:=⟨Chg.refl _ _,fun _ h=>.inl h,rfl⟩
theorem RowTo.of {w:World} {b:Nat} {g g':Gh} {w':World} (h:Gh.To w g g' w'):RowTo w b g g' w':=⟨h.chg.wide fun _ _ hk=>.inr hk,h.fp,h.d⟩
theorem RowTo.trans {w w1 w2:World} {b:Nat} {g g1 g2:Gh} (h:RowTo w b g g1 w1) (k:RowTo w1 b g1 g2 w2):RowTo w b g g2 w2:=by
 have hs:=h.chg.size
 refine ⟨h.chg.trans k.chg (fun i hi hx=>?_),fun i hi=>?_,k.d.trans h.d⟩
 ·rcases hx with h0|hx
  ·exact .inl h0
  ·rcases h.fp i hx with h1|h1
   ·exact .inr h1
   ·omega
 ·rcases k.fp i hi with h1|h1
  ·exact h.fp i h1
  ·exact .inr (by omega)
theorem RowTo.new {w w':World} (b:Nat) (g:Gh) (hc:Chg (fun _=>False) w w'):RowTo w b g g w':=⟨hc.wide (fun _ _ x=>x.elim),fun _ h=>.inl h,rfl⟩
theorem tab_at {w : World} (h : Tab10 w) : ∃ k cs t z, Tryz.prog.globalNamed "internal/strconv.uint64pow10" = some k ∧ w.heap[k]? = some (.cells cs t z) ∧ some cs = some (Lib.pow10Tab.map fun z => Value.int .u64 z).toArray := by
 unfold Tab10 Lib.TabIs World.var? at h
 obtain ⟨k,hk,h2⟩:=Option.bind_eq_some_iff.1 h
 split at h2
 ·rename_i cs t z he
  exact ⟨k,cs,t,z,hk,he,h2⟩
 ·cases h2
theorem tab_chg {w w':World} (h:Tab10 w) (hc:Chg (fun _=>False) w w'):Tab10 w':=by
 obtain ⟨k,cs,t,z,hk,he,h2⟩:=tab_at h
 unfold Tab10 Lib.TabIs World.var?
 rw [hk]
 show (match w'.heap[k]? with|some (.cells cs _ _)=>some cs|_=>none)=_
 rw [hc.heap he (fun x=>x)]
 exact h2
structure RowG (w0 w:World) (b:Nat) (g:Gh) (st:St) (m:RowM):Prop where
 disk:DiskAt w g st
 row:RowAt w b g.d m
 out:b∉g.fp
 chg:Chg (fun _=>False) w0 w
 low:∀ k∈g.fp,w0.heap.size≤k
 lowb:w0.heap.size≤b
 tab0:Tab10 w0
theorem RowG.tab {w0 w:World} {b:Nat} {g:Gh} {st:St} {m:RowM} (h:RowG w0 w b g st m):Tab10 w:=tab_chg h.tab0 h.chg
theorem RowG.step {w0 w w':World} {b:Nat} {g g':Gh} {st st':St} {m m':RowM} (h:RowG w0 w b g st m) (hd:DiskAt w' g' st') (hr:RowAt w' b g'.d m') (ht:RowTo w b g g' w'):RowG w0 w' b g' st' m':=by
 have hs:=h.chg.size
 have hlt:=h.row.lt
 refine ⟨hd,hr,fun hx=>?_,h.chg.trans ht.chg (fun i hi hx=>?_),fun k hk=>?_,h.lowb,h.tab0⟩
 ·rcases ht.fp b hx with h1|h1
  ·exact h.out h1
  ·omega
 ·have h1:=h.lowb
  rcases hx with h0|hx
  ·omega
  ·have:=h.low i hx
   omega
 ·rcases ht.fp k hk with h1|h1
  ·exact h.low k h1
  ·omega
theorem RowG.new {w0 w w':World} {b:Nat} {g:Gh} {st:St} {m:RowM} (h:RowG w0 w b g st m) (hc:Chg (fun _=>False) w w'):RowG w0 w' b g st m:=
 h.step (h.disk.new hc) (h.row.chg hc (fun x=>x)) (RowTo.new b g hc)
theorem RowG.drewN {w0 w:World} {b:Nat} {g:Gh} {st:St} {m:RowM} (h:RowG w0 w b g st m) (q:Nat):RowG w0 (w.drewN q) b g st m:=h.new ((Chg.refl _ _).drewN q)
theorem RowG.drew {w0 w:World} {b:Nat} {g:Gh} {st:St} {m:RowM} (h:RowG w0 w b g st m):RowG w0 w.drew b g st m:=h.new (Chg.refl _ _).drew
theorem RowG.op {w0 w:World} {b:Nat} {g:Gh} {st:St} {m:RowM} (h:RowG w0 w b g st m) {g':Gh} {st':St} {w':World} (hd:DiskAt w' g' st') (ht:Gh.To w g g' w'):RowG w0 w' b g' st' m∧RowTo w b g g' w':=by
 have hr:RowAt w' b g'.d m:=by rw [ht.d];exact h.row.chg ht.chg h.out
 exact ⟨h.step hd hr (RowTo.of ht),RowTo.of ht⟩
theorem RowG.set {w0 w:World} {b:Nat} {g:Gh} {st:St} {m:RowM} (h:RowG w0 w b g st m) (i:Nat) (v:Value) (m':RowM) (hc:(m.cells g.d).setIfInBounds i v=m'.cells g.d):RowG w0 (w.setCell ⟨b,i,none⟩ v) b g st m'∧RowTo w b g g (w.setCell ⟨b,i,none⟩ v):=by
 have k:Chg (fun k=>k=b) w (w.setCell ⟨b,i,none⟩ v):=Chg.setCell (S:=fun k=>k=b) (Chg.refl _ _) (fun _=>rfl) _
 have ht:RowTo w b g g (w.setCell ⟨b,i,none⟩ v):=⟨k.wide fun _ _ hk=>.inl hk,fun _ hk=>.inl hk,rfl⟩
 exact ⟨h.step (h.disk.chg k (fun q hq hx=>h.out (hx▸hq))) (h.row.set i v m' hc) ht,ht⟩
set_option maxRecDepth 100000 in
theorem rroom_any (b d:Nat) (m:RowM) (w:World) (h:RowAt w b d m) (h1:0≤m.end_) (h2:m.end_≤m.next) (h3:m.next≤1099511627776) :
 Calls Tryz.prog 114 #[.pointer (some ⟨b,0,none⟩)] w fun e w'=>e = .returned (.int .i64 (if m.end_=m.next then m.size else m.next - m.end_))∧∃ q,w'=w.drewN q:=by
 obtain ⟨c0,c1,c2,c3,c4,c5,c6,c7,hz⟩:=h.cell
 clear hz h
 obtain ⟨head,size,begin_,end_,next,synced,touched⟩:=m
 simp only at *
 by_cases he:end_=next
 ·have hb:(end_ == next)=true:=by simpa using he
  rw [if_pos he]
  clear he
  go_enter Tryz.func114,Tryz.ntmps114
  go_wp2_with fail
  go_quiet (fail)
  go_wp2_with fail
  go_ret
  exact ⟨rfl,_,rfl⟩
 ·have hb:(end_ == next)=false:=by simpa using he
  have hw:IntKind.i64.wrap (next - end_)=next - end_:=IntWalk.i64_in _ (by omega)
  rw [if_neg he]
  clear he
  go_enter Tryz.func114,Tryz.ntmps114
  go_wp2_with fail
  go_quiet (fail)
  go_wp2_with fail
  go_quiet (fail)
  go_wp2_with fail
  go_ret
  exact ⟨rfl,_,drewN_add _ _ _⟩
set_option maxRecDepth 100000 in
theorem last_any (b d:Nat) (m:RowM) (w:World) (h:RowAt w b d m) (h1:0≤m.next) (h2:0≤m.size) (h3:m.next≤1099511627776) (h4:m.size≤1099511627776) :
 Calls Tryz.prog 106 #[.pointer (some ⟨b,0,none⟩)] w fun e w'=>e = .returned (.int .i64 (m.next - m.size))∧∃ q,w'=w.drewN q:=by
 obtain ⟨c0,c1,c2,c3,c4,c5,c6,c7,hz⟩:=h.cell
 have hw:IntKind.i64.wrap (m.next - m.size)=m.next - m.size:=IntWalk.i64_in _ (by omega)
 clear hz h
 go_enter Tryz.func106,Tryz.ntmps106
 go_wp2_with fail
 go_quiet (fail)
 go_wp2_with fail
 go_ret
 exact ⟨rfl,_,rfl⟩
set_option maxRecDepth 100000 in
theorem rname_any (b d:Nat) (m:RowM) (w:World) (h:RowAt w b d m) (ht:Tab10 w) (u:Nat) (hu:u≤99999999) (hh:m.head.size≤1099511627776) :
 Calls Tryz.prog 90 #[.pointer (some ⟨b,0,none⟩),.int .i64 u] w fun e w'=>e = .returned (.string (nameB m.head u))∧Below w.heap.size w w':=by
 obtain ⟨c0,c1,c2,c3,c4,c5,c6,c7,hz⟩:=h.cell
 have HN:=Lib.hid (name_ok m.head u hu hh w ht)
 clear hz h ht
 go_enter Tryz.func90,Tryz.ntmps90
 go_wp2_with (go_at_call 134;refine HN.out.mono ?_)
 rintro e w1 ⟨rfl,hb⟩
 go_wp2_with fail
 go_ret
 exact ⟨rfl,hb⟩
end Go.Proofs.YtajmeimjaapagaaGreatDoor
