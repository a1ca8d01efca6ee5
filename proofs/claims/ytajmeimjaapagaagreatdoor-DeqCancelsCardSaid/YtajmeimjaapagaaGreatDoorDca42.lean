/- A part. -/
import Derived.Test.YtajmeimjaapagaaGreatDoorDca41
set_option linter.unusedVariables false
set_option linter.unusedSimpArgs false
namespace Go.Proofs.YtajmeimjaapagaaGreatDoor
open Go.RowKit Go.Deep
theorem owns_set {w:World} {base b:Nat} {e:TypeId} {n k:Nat} {v:Value} {xs:List Value} (h:w.ownsRow base e n v k xs) (hb:b<base) (i:Nat) (u:Value):(w.setCell ⟨b,i,none⟩ u).ownsRow base e n v k xs:=by
 obtain ⟨h1,h2⟩:=h
 refine ⟨h1,?_⟩
 rcases h2 with h2|⟨g,cap,cur,rfl,hg,hh,h3⟩
 ·exact .inl h2
 ·exact .inr ⟨g,cap,cur,rfl,hg,(Below.heap_setCell _ _ _ _ (by show g≠b;omega)).trans hh,h3⟩
theorem owns_set10 {w:World} {base P:Nat} {e:TypeId} {n k:Nat} {v:Value} {xs:List Value} (h:w.ownsRow base e n v k xs) (hb:P<base) (c0 c1 c2 c3 c4 c5 c6 c7 c8 c9:Value):(set10 w P c0 c1 c2 c3 c4 c5 c6 c7 c8 c9).ownsRow base e n v k xs:=
 owns_set (owns_set (owns_set (owns_set (owns_set (owns_set (owns_set (owns_set (owns_set (owns_set h hb _ _) hb _ _) hb _ _) hb _ _) hb _ _) hb _ _) hb _ _) hb _ _) hb _ _) hb _ _
theorem owns_form {w:World} {base:Nat} {e:TypeId} {n k:Nat} {v:Value} {xs:List Value} (h:w.ownsRow base e n v k xs):∃ a l c,v = .slice a l c:=by
 rcases h.2 with ⟨rfl,_⟩|⟨g,cap,cur,rfl,_⟩
 ·exact ⟨_,_,_,rfl⟩
 ·exact ⟨_,_,_,rfl⟩
def CopyTo (m:MsgM) (w:World) (e:Ending) (w':World):Prop:=∃ vk,e = .returned (m.val vk)∧w'.ownsRow (w.heap.size+2) 9 1 vk m.keys.length (m.keys.map Value.string)∧Below w.heap.size w w'
set_option maxHeartbeats 2000000 in
set_option maxRecDepth 100000 in
theorem copy_any (m:MsgM) (vk:Value) (w:World) (hk:Strs w 0 vk m.keys) (hn:m.keys.length≤10000):Calls Tryz.prog 47 #[m.val vk] w (CopyTo m w):=by
 obtain ⟨W1,hW1⟩:∃ W,W=(w.alloc (.cells #[.int .i64 m.kind,.int .i64 m.queue,.int .i64 m.due,.int .i64 m.retry,.int .i64 m.ref,.int .i64 m.born,.string m.topic,.string m.tag,.string m.body,vk] 36)).alloc (.cells #[.int .i64 0,.int .i64 0,.int .i64 0,.int .i64 0,.int .i64 0,.int .i64 0,.string ⟨#[]⟩,.string ⟨#[]⟩,.string ⟨#[]⟩,.slice none 0 0] 36):=⟨_,rfl⟩
 have hb1:Below w.heap.size w W1:=by
  rw [hW1]
  exact ((Below.refl w.heap.size w).alloc (Nat.le_refl _) _).alloc (by simp only [World.size_alloc];omega) _
 have hbm:Box W1 w.heap.size #[.int .i64 m.kind,.int .i64 m.queue,.int .i64 m.due,.int .i64 m.retry,.int .i64 m.ref,.int .i64 m.born,.string m.topic,.string m.tag,.string m.body,vk]:=by rw [hW1];exact (Box.new w _).alloc _
 have hbz:Box W1 (w.heap.size+1) zc:=by
  have:=Box.new (w.alloc (.cells (m.cells vk) 36)) zc
  rw [World.size_alloc] at this
  rw [hW1]
  exact this
 have hz1:W1.heap.size=w.heap.size+2:=by rw [hW1,World.size_alloc,World.size_alloc]
 have hown:W1.ownsRow W1.heap.size 9 1 (.slice none 0 0) 0 []:=⟨rfl,.inl ⟨rfl,rfl⟩⟩
 have hst:=hk.below hb1 (Nat.le_refl _)
 have HOWN:=Lib.hid hown
 have HB1:=Lib.hid hb1
 have HST:=Lib.hid hst
 have HW1:=Lib.hid hW1
 have HBM:=Lib.hid hbm
 have HBZ:=Lib.hid hbz
 have HZ1:=Lib.hid hz1
 clear hb1 hown hst hk hW1 hbm hbz hz1
 unfold MsgM.val
 unfold MsgM.cells at *
 go_enter Tryz.func47,Tryz.ntmps47
 go_wp2_with (at_builtin;rw [←HW1.out];go_must (refine Oc.wpList_append_strs rfl _ _ rfl W1.heap.size _ _ 0 [] m.keys rfl rfl HOWN.out HST.out (by omega) (Nat.le_refl _) ?_))
 intro v1 w4 ho hgr
 have hb4:=below_grown (Below.refl W1.heap.size W1) hgr (Nat.le_refl _)
 rw [HZ1.out] at ho
 replace ho:w4.ownsRow (w.heap.size+2) 9 1 v1 m.keys.length (m.keys.map Value.string):=by simpa using ho
 obtain ⟨a4,l4,c4,rfl⟩:=owns_form ho
 have hm4:=HBM.out.below hb4 HBM.out.lt
 have hz4:=HBZ.out.below hb4 HBZ.out.lt
 have HO:=Lib.hid ho
 have HB4:=Lib.hid (HB1.out.trans (hb4.mono HB1.out.size))
 have HM4:=Lib.hid hm4
 have HZ4:=Lib.hid hz4
 have kc:=hm4.cell
 have kf:=hm4.free
 have zcc:=hz4.cell
 have zf:=hz4.free
 simp only [zc] at zcc
 clear ho hgr hb4 hm4 hz4
 go_wp2_with fail
 obtain ⟨W,hW⟩:∃ W,W=set10 (w4.setCell ⟨w.heap.size,9,none⟩ (.slice a4 l4 c4)) (w.heap.size+1) (.int .i64 m.kind) (.int .i64 m.queue) (.int .i64 m.due) (.int .i64 m.retry) (.int .i64 m.ref) (.int .i64 m.born) (.string m.topic) (.string m.tag) (.string m.body) (.slice a4 l4 c4):=⟨_,rfl⟩
 have hbx:Box W (w.heap.size+1) #[.int .i64 m.kind,.int .i64 m.queue,.int .i64 m.due,.int .i64 m.retry,.int .i64 m.ref,.int .i64 m.born,.string m.topic,.string m.tag,.string m.body,.slice a4 l4 c4]:=by rw [hW];exact box_set10 (HZ4.out.setO (by omega) 9 (.slice a4 l4 c4)) (.int .i64 m.kind) (.int .i64 m.queue) (.int .i64 m.due) (.int .i64 m.retry) (.int .i64 m.ref) (.int .i64 m.born) (.string m.topic) (.string m.tag) (.string m.body) (.slice a4 l4 c4)
 have hbl:Below w.heap.size w W:=by rw [hW];exact below_set10 (HB4.out.setCell (Nat.le_refl _) (.slice a4 l4 c4)) (Nat.le_succ _) (.int .i64 m.kind) (.int .i64 m.queue) (.int .i64 m.due) (.int .i64 m.retry) (.int .i64 m.ref) (.int .i64 m.born) (.string m.topic) (.string m.tag) (.string m.body) (.slice a4 l4 c4)
 have hst:W.ownsRow (w.heap.size+2) 9 1 (.slice a4 l4 c4) m.keys.length (m.keys.map Value.string):=by rw [hW];exact owns_set10 (owns_set HO.out (by omega) 9 (.slice a4 l4 c4)) (by omega) (.int .i64 m.kind) (.int .i64 m.queue) (.int .i64 m.due) (.int .i64 m.retry) (.int .i64 m.ref) (.int .i64 m.born) (.string m.topic) (.string m.tag) (.string m.body) (.slice a4 l4 c4)
 unfold set10 at hW
 rw [←hW]
 have hpm:=Box.cell hbx
 exact bodyPost_ret (v:=m.val (.slice a4 l4 c4)) (by simp [results,Tryz.results47,go_sem,hpm,MsgM.val,MsgM.cells]) rfl ⟨_,rfl,hst,hbl⟩
end Go.Proofs.YtajmeimjaapagaaGreatDoor
