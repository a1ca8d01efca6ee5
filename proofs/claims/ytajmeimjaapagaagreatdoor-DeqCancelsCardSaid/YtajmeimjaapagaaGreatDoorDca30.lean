/- A part. -/
import Derived.Test.YtajmeimjaapagaaGreatDoorDca23
import Derived.Test.YtajmeimjaapagaaGreatDoorDca16
set_option linter.unusedVariables false
set_option linter.unusedSimpArgs false
namespace Go.Proofs.YtajmeimjaapagaaGreatDoor
open Go.RowKit Go.Deep
structure St where
 lit:Bool
 down:Bool
 left:Int
 cap:Nat
 size:Nat
 turn:Nat
 fs:List (ByteArray×FileM)
structure Gh where
 d:Nat
 mb:Option Nat
 es:List Ent
def Gh.fp (g:Gh):List Nat:=g.d :: (g.mb.toList ++ g.es.flatMap Ent.foot)
def nf (e:Ent):ByteArray×FileM:=(e.name,e.f)
structure DiskAt (w:World) (g:Gh) (st:St):Prop where
 head:w.heap[g.d]? = some (.cells #[.bool st.lit,.bool st.down,.int .i64 st.left,.int .i64 st.cap,.int .i64 st.size,.int .i64 st.turn,.map g.mb] 128 (0,0))
 map:MapIn w g.mb g.es
 ents:∀ e∈g.es,EntAt w e
 apart:g.fp.Nodup
 fs:g.es.map nf=st.fs
structure Gh.To (w:World) (g g':Gh) (w':World):Prop where
 chg:Chg (·∈g.fp) w w'
 fp:∀ k∈g'.fp,k∈g.fp∨w.heap.size≤k
 d:g'.d=g.d
theorem Gh.To.refl (w:World) (g:Gh):Gh.To w g g w:=⟨Chg.refl _ _,fun _ h=>.inl h,rfl⟩
theorem Gh.To.trans {w w1 w2:World} {g g1 g2:Gh} (h:Gh.To w g g1 w1) (k:Gh.To w1 g1 g2 w2):Gh.To w g g2 w2:=by
 have hs:=h.chg.size
 refine ⟨h.chg.trans k.chg (fun i hi hx=>?_),fun i hi=>?_,k.d.trans h.d⟩
 ·rcases h.fp i hx with h1|h1
  ·exact h1
  ·omega
 ·rcases k.fp i hi with h1|h1
  ·exact h.fp i h1
  ·exact .inr (by omega)
theorem Gh.To.new {w w':World} (g:Gh) (hc:Chg (fun _=>False) w w'):Gh.To w g g w':=⟨hc.wide (fun _ _ x=>x.elim),fun _ h=>.inl h,rfl⟩
theorem mem_fp_d (g:Gh):g.d∈g.fp:=List.mem_cons_self ..
theorem mem_fp_mb (g:Gh) {m:Nat} (h:g.mb=some m):m∈g.fp:=by simp [Gh.fp,h]
theorem mem_fp_ent (g:Gh) {e:Ent} (he:e∈g.es) {k:Nat} (hk:k∈e.foot):k∈g.fp:=by
 unfold Gh.fp
 exact List.mem_cons_of_mem _ (List.mem_append_right _ (List.mem_flatMap.2 ⟨e,he,hk⟩))
theorem DiskAt.chg {S:Nat→Prop} {w w':World} {g:Gh} {st:St} (h:DiskAt w g st) (hc:Chg S w w') (hn:∀ k∈g.fp,¬ S k):DiskAt w' g st:=
 ⟨hc.heap h.head (hn _ (mem_fp_d g)),h.map.chg hc (fun m hm=>hn m (mem_fp_mb g hm)),fun e he=>(h.ents e he).chg hc (fun k hk=>hn k (mem_fp_ent g he hk)),h.apart,h.fs⟩
theorem DiskAt.new {w w':World} {g:Gh} {st:St} (h:DiskAt w g st) (hc:Chg (fun _=>False) w w'):DiskAt w' g st:=h.chg hc (fun _ _ x=>x)
theorem DiskAt.lt {w:World} {g:Gh} {st:St} (h:DiskAt w g st):∀ k∈g.fp,k<w.heap.size:=by
 intro k hk
 simp only [Gh.fp,List.mem_cons,List.mem_append,Option.mem_toList,List.mem_flatMap] at hk
 rcases hk with rfl|hk|⟨e,he,hk⟩
 ·exact (Array.getElem?_eq_some_iff.1 h.head).1
 ·have:=h.map
  rw [hk] at this
  exact this.lt
 ·exact (h.ents e he).lt k hk
theorem DiskAt.drew {w:World} {g:Gh} {st:St} (h:DiskAt w g st):DiskAt w.drew g st:=h.new (Chg.refl _ _).drew
theorem DiskAt.cells {w:World} {g:Gh} {st:St} (h:DiskAt w g st):w.cell? ⟨g.d,0,none⟩=some (.bool st.lit)∧w.cell? ⟨g.d,1,none⟩=some (.bool st.down)∧w.cell? ⟨g.d,2,none⟩=some (.int .i64 st.left)∧w.cell? ⟨g.d,3,none⟩=some (.int .i64 st.cap) ∧
 w.cell? ⟨g.d,4,none⟩=some (.int .i64 st.size)∧w.cell? ⟨g.d,5,none⟩=some (.int .i64 st.turn)∧w.cell? ⟨g.d,6,none⟩=some (.map g.mb)∧∀ i,w.frozen? ⟨g.d,i,none⟩=false:=by
 refine ⟨?_,?_,?_,?_,?_,?_,?_,fun i=>?_⟩<;>simp [World.cell?,World.frozen?,h.head]
def St.find (st:St) (nm:ByteArray):Option FileM:=(st.fs.find? fun p=>decide (p.1=nm)).map (·.2)
theorem DiskAt.find {w:World} {g:Gh} {st:St} (h:DiskAt w g st) (nm:ByteArray):(getE g.es nm).map (·.f)=st.find nm:=by
 unfold St.find getE
 rw [←h.fs,List.find?_map,Option.map_map]
 rfl
theorem DiskAt.has {w:World} {g:Gh} {st:St} (h:DiskAt w g st) (nm:ByteArray):(getE g.es nm).isSome=(st.find nm).isSome:=by
 rw [←h.find nm];simp
theorem DiskAt.found {w:World} {g:Gh} {st:St} (h:DiskAt w g st) {nm:ByteArray} {f:FileM} (hf:st.find nm=some f):∃ e∈g.es,getE g.es nm=some e∧e.f=f∧e.name=nm:=by
 have h1:=h.find nm
 rw [hf] at h1
 cases hq:getE g.es nm with
 | none=>rw [hq] at h1;cases h1
 | some e=>
  rw [hq] at h1
  obtain ⟨hm,hn⟩:=getE_mem hq
  exact ⟨e,hm,rfl,by simpa using h1,hn⟩
theorem DiskAt.set {w:World} {g:Gh} {st:St} (h:DiskAt w g st) (i:Nat) (v:Value) (st':St) (hf:st'.fs=st.fs)
 (hc:#[Value.bool st.lit,.bool st.down,.int .i64 st.left,.int .i64 st.cap,.int .i64 st.size,.int .i64 st.turn,.map g.mb].setIfInBounds i v = #[.bool st'.lit,.bool st'.down,.int .i64 st'.left,.int .i64 st'.cap,.int .i64 st'.size,.int .i64 st'.turn,.map g.mb]) :
 DiskAt (w.setCell ⟨g.d,i,none⟩ v) g st'∧Gh.To w g g (w.setCell ⟨g.d,i,none⟩ v):=by
 have k2:Chg (fun k=>k=g.d) w (w.setCell ⟨g.d,i,none⟩ v):=Chg.setCell (S:=fun k=>k=g.d) (Chg.refl _ _) (fun _=>rfl) _
 have hap:=h.apart
 unfold Gh.fp at hap
 rw [List.nodup_cons] at hap
 refine ⟨⟨?_,h.map.chg k2 (fun m hm hx=>hap.1 ?_),fun e he=>(h.ents e he).chg k2 (fun k hk hx=>hap.1 ?_),h.apart,h.fs.trans hf.symm⟩,⟨k2.wide (fun k _ hk=>hk▸mem_fp_d g),fun k hk=>.inl hk,rfl⟩⟩
 ·rw [←hc]
  exact heap_setCell_same w g.d i _ _ v h.head
 ·rw [←hx,hm];simp
 ·rw [←hx];exact List.mem_append_right _ (List.mem_flatMap.2 ⟨e,he,hk⟩)
theorem ret_of {a b:Int} (h:a=b):Ending.returned (.int .i64 a) = .returned (.int .i64 b):=by rw [h]
set_option maxRecDepth 100000 in
theorem within_any (n most:Int) (w:World):Calls Tryz.prog 67 #[.int .i64 n,.int .i64 most] w fun e w'=>e = .returned (.int .i64 (min (max n 0) most))∧w=w':=by
 go_enter Tryz.func67,Tryz.ntmps67
 go_wp2_with fail
 all_goals
  go_ret
  exact ⟨ret_of (by omega),rfl⟩
def newSt (c:Int):St:=⟨false,false,0,(min (max c 0) 16777216).toNat,0,0,[]⟩
def NewTo (c:Int) (w:World) (e:Ending) (w':World):Prop:=e = .returned (.pointer (some ⟨w.heap.size,0,none⟩))∧DiskAt w' ⟨w.heap.size,none,[]⟩ (newSt c)∧Below w.heap.size w w'
theorem new_to (c:Int) (w:World) (k:Int) (hk:k=min (max c 0) 16777216):NewTo c w (.returned (.pointer (some ⟨w.heap.size,0,none⟩))) (w.alloc (.cells #[.bool false,.bool false,.int .i64 0,.int .i64 k,.int .i64 0,.int .i64 0,.map none] 128)):=by
 have hk':k=((min (max c 0) 16777216).toNat:Int):=by omega
 refine ⟨rfl,⟨?_,⟨List.nodup_nil,rfl⟩,(by intro e he;cases he),by simp [Gh.fp],rfl⟩,(Below.refl _ _).alloc (Nat.le_refl _) _⟩
 rw [hk']
 exact heap_alloc_new w _
set_option maxRecDepth 100000 in
theorem new_any (c:Int) (w:World):Calls Tryz.prog 30 #[.int .i64 c] w (NewTo c w):=by
 obtain ⟨k,hk⟩:∃ k,k=min (max c 0) 16777216:=⟨_,rfl⟩
 have HK:=Lib.hid hk
 have hw:∀ w,Calls Tryz.prog 67 #[.int .i64 c,.int .i64 16777216] w fun e w'=>e = .returned (.int .i64 k)∧w=w':=fun w=>hk▸within_any c 16777216 w
 clear hk
 have HW:=Lib.hid hw
 clear hw
 go_enter Tryz.func30,Tryz.ntmps30
 go_wp2_with (go_at_call 67;refine (HW.out _).mono ?_;rintro e w' ⟨rfl,rfl⟩)
 go_ret
 exact new_to c w k HK.out
def burnE (st:St):Int:=if st.lit=true∧st.left=0 then 8 else 0
def burnS (st:St):St:=if st.lit=true then (if st.left=0 then { st with down:=true } else { st with left:=st.left - 1 }) else st
def BurnTo (g:Gh) (st:St) (w:World) (e:Ending) (w':World):Prop:=e = .returned (.int .i64 (burnE st))∧DiskAt w' g (burnS st)∧Gh.To w g g w'
set_option maxRecDepth 100000 in
theorem burn_any (g:Gh) (st:St) (w:World) (h:DiskAt w g st) (hl:st.lit=true→0≤st.left) (hb:st.left≤9223372036854775807) :
 Calls Tryz.prog 112 #[.pointer (some ⟨g.d,0,none⟩)] w (BurnTo g st w):=by
 obtain ⟨c0,c1,c2,c3,c4,c5,c6,hz⟩:=h.cells
 have z1:=hz 1
 have z2:=hz 2
 have H:=Lib.hid h
 clear hz h
 cases hq:st.lit with
 | false=>
  rw [hq] at c0
  have HQ:=Lib.hid hq
  clear hl hq
  go_enter Tryz.func112,Tryz.ntmps112
  go_wp2_with fail
  go_ret
  exact ⟨by simp [burnE,HQ.out],by simp only [burnS,HQ.out];exact H.out,Gh.To.refl _ _⟩
 | true=>
  rw [hq] at c0
  have HQ:=Lib.hid hq
  have hl0:=hl hq
  clear hl hq
  by_cases h0:st.left=0
  ·have H0:=Lib.hid h0
   rw [h0] at c2
   clear h0
   go_enter Tryz.func112,Tryz.ntmps112
   go_wp2_with fail
   go_ret
   have hs:=H.out.set 1 (.bool true) { st with down:=true } rfl rfl
   exact ⟨by simp [burnE,HQ.out,H0.out],by unfold burnS;rw [if_pos HQ.out,if_pos H0.out];exact hs.1,hs.2⟩
  ·have H0:=Lib.hid h0
   have hne:(st.left == 0)=false:=by simpa using h0
   have hge:1≤st.left:=by omega
   clear h0
   go_enter Tryz.func112,Tryz.ntmps112
   go_wp2_with fail
   go_ret
   have hs:=H.out.set 2 (.int .i64 (st.left - 1)) { st with left:=st.left - 1 } rfl rfl
   exact ⟨by simp [burnE,H0.out],by unfold burnS;rw [if_pos HQ.out,if_neg H0.out];exact hs.1,hs.2⟩
end Go.Proofs.YtajmeimjaapagaaGreatDoor
