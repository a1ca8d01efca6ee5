/- A part. -/
import Derived.Deep.DeepCutAuto
import Derived.Deep.RegionHeld3
import Derived.Deep.RegionLaw
import Derived.Test.YtajmeimjaapagaaGreatDoorDor6
import Derived.Test.YtajmeimjaapagaaGreatDoorDor20
set_option linter.unusedVariables false
set_option linter.unusedSimpArgs false
namespace Go.Proofs.YtajmeimjaapagaaGreatDoor.Cr
open Go.RowKit Go.Deep
theorem open_short (b:Nat) (s:ByteArray) (w:World) (hs:s.size<4):Calls Tryz.prog 138 #[.pointer (some ⟨b,0,none⟩),.string s] w fun e w'=>e = .returned (.tuple #[.string ⟨#[]⟩,.bool false])∧w=w':=by
 go_enter Tryz.func138,Tryz.ntmps138
 go_wp2_with fail
 go_ret2
 exact ⟨rfl,rfl⟩
def rowW (W:World) (t:ByteArray):World:=W.drew.alloc (.cells (bytesRow t (grownCap W t.size 0 5)) 5 ((bytesRow t (grownCap W t.size 0 5)).size,(bytesRow t (grownCap W t.size 0 5)).size+1))
theorem rowW_size (W:World) (t:ByteArray):(rowW W t).heap.size=W.heap.size+1:=by simp [rowW]
theorem rowW_below (W:World) (t:ByteArray):Below W.heap.size W (rowW W t):=((Below.refl W.heap.size W).drew).alloc (by simp) _
theorem rowW_cell (W:World) (t:ByteArray) (j:Nat) (hj:j<t.size):(rowW W t).cell? ⟨W.heap.size,j,none⟩=some (by8 t[j]):=by
 unfold rowW
 have h:=World.cell?_alloc_mark W.drew (bytesRow t (grownCap W t.size 0 5)) 5 ((bytesRow t (grownCap W t.size 0 5)).size,(bytesRow t (grownCap W t.size 0 5)).size+1) j
 rw [bytesRow_at t _ j hj] at h
 exact h
theorem rowW_conv (W:World) (t:ByteArray):(convert 9 65 (.string t)).run Tryz.prog W = .ok (.slice (some ⟨W.heap.size,0,none⟩) t.size (grownCap W t.size 0 5)) (rowW W t):=
 run_bytes_of_string W 9 65 5 t Tryz.underlying9 Tryz.underlying65 Tryz.underlying5
theorem rowW_old (W:World) (t:ByteArray) (g j:Nat) (h:g<W.heap.size):(rowW W t).cell? ⟨g,j,none⟩=W.cell? ⟨g,j,none⟩:=(rowW_below W t).cell (p:=⟨g,j,none⟩) h
theorem rowW_free (W:World) (t:ByteArray) (g j:Nat) (h:g<W.heap.size):(rowW W t).frozen? ⟨g,j,none⟩=W.frozen? ⟨g,j,none⟩:=(rowW_below W t).frozen (p:=⟨g,j,none⟩) h
theorem row4 (s:ByteArray) (h4:4≤s.size):∃ y0 y1 y2 y3:Nat,(s.data.toList.take 4).map by8=[.int .u8 y0,.int .u8 y1,.int .u8 y2,.int .u8 y3] ∧
 (∀ (W:World) (B:Nat),B=W.heap.size→(rowW W (s.extract 0 4)).cell? ⟨B,0,none⟩=some (.int .u8 y0))∧(∀ (W:World) (B:Nat),B=W.heap.size→(rowW W (s.extract 0 4)).cell? ⟨B,1,none⟩=some (.int .u8 y1)) ∧
 (∀ (W:World) (B:Nat),B=W.heap.size→(rowW W (s.extract 0 4)).cell? ⟨B,2,none⟩=some (.int .u8 y2))∧(∀ (W:World) (B:Nat),B=W.heap.size→(rowW W (s.extract 0 4)).cell? ⟨B,3,none⟩=some (.int .u8 y3)):=by
 have htz:(s.extract 0 4).size=4:=by simp [ByteArray.size_extract];omega
 have hget:∀ (j:Nat) (hj:j<4),(s.extract 0 4)[j]'(by omega)=s[j]'(by omega):=fun j hj=>by simp [ByteArray.getElem_extract]
 refine ⟨s[0].toNat,s[1].toNat,s[2].toNat,s[3].toNat,by rw [take4 s h4];rfl,?_,?_,?_,?_⟩
 all_goals
  intro W B hB
  subst hB
  rw [rowW_cell W _ _ (by omega),hget _ (by omega)]
  rfl
theorem arr_at (W:World) (g:Addr) (c:Nat):(Instr.arrayAt 247 (.slice (some g) 4 c)).run Tryz.prog W = .ok (.pointer (some g)) W:=by
 have h:Tryz.prog.underlying 247=some (.array 4 5):=Tryz.underlying247
 simp [Instr.arrayAt,run_underlying h,go_sem]
def Told (w:World) (s:ByteArray) (y0 y1 y2 y3:Nat) (p t:Value) (wx:World):Prop:=
 ∃ g:Nat,p = .pointer (some ⟨g,0,none⟩)∧t = .string (s.extract 4 s.size)∧w.heap.size≤g∧Below w.heap.size w wx ∧
  wx.cell? ⟨g,0,none⟩=some (.int .u8 y0)∧wx.cell? ⟨g,1,none⟩=some (.int .u8 y1)∧wx.cell? ⟨g,2,none⟩=some (.int .u8 y2)∧wx.cell? ⟨g,3,none⟩=some (.int .u8 y3)
theorem sum_one (b:Nat) (t:ByteArray) (n:Nat) (v:Value) (w:World) (hn:n=crcL t.data.toList) (ht:t.size≤1000000) (h:Tab w b) (hv:Strs w 0 v [t]):Calls Tryz.prog 182 #[.pointer (some ⟨b,0,none⟩),v] w fun e w'=>e = .returned (.int .i64 n)∧∃ k,w'=w.drewN k:=by
 refine (sum_any b v [t] w h hv (by unfold maxLen;simp) (by simp;unfold maxLen;omega)).mono ?_
 rintro e w' ⟨he,hw⟩
 exact ⟨by rw [he,flatB_one,hn],hw⟩
theorem headOf_x (n:Nat) (w:World) (hn:n<4294967296) {x0 x1 x2 x3:Nat} (hh:headV n = #[.int .u8 x0,.int .u8 x1,.int .u8 x2,.int .u8 x3]):Calls Tryz.prog 181 #[.int .i64 n] w fun e w'=>e = .returned (.agg #[.int .u8 x0,.int .u8 x1,.int .u8 x2,.int .u8 x3])∧Below w.heap.size w w':=by
 have h:=headOf_any n w hn
 rw [hh] at h
 exact h
theorem told_new (w:World) (s:ByteArray) (y0 y1 y2 y3:Nat) (t:TypeId):Told w s y0 y1 y2 y3 (.pointer (some ⟨w.heap.size+1,0,none⟩)) (.string (s.extract 4 s.size))
 ((rowW w.drew (s.extract 0 4)).alloc (.cells #[.int .u8 y0,.int .u8 y1,.int .u8 y2,.int .u8 y3] t)):=by
 have hs:(rowW w.drew (s.extract 0 4)).heap.size=w.heap.size+1:=rowW_size _ _
 have hn:=heap_alloc_new (rowW w.drew (s.extract 0 4)) (.cells #[.int .u8 y0,.int .u8 y1,.int .u8 y2,.int .u8 y3] t)
 rw [hs] at hn
 refine ⟨w.heap.size+1,rfl,rfl,Nat.le_succ _,((Below.refl w.heap.size w).drew.trans (rowW_below w.drew _)).alloc (by rw [hs];omega) _,?_,?_,?_,?_⟩
 all_goals
  rw [cell_of_row _ _ _ _ t (0,0) hn]
  rfl
theorem told_old (w:World) (s:ByteArray) (y0 y1 y2 y3:Nat) (t:TypeId):Told w s y0 y1 y2 y3 (.pointer (some ⟨w.heap.size,0,none⟩)) (.string (s.extract 4 s.size))
 (((((rowW (w.alloc (.cells #[.int .u8 0,.int .u8 0,.int .u8 0,.int .u8 0] t)).drew (s.extract 0 4)).setCell ⟨w.heap.size,0,none⟩ (.int .u8 y0)).setCell ⟨w.heap.size,1,none⟩ (.int .u8 y1)).setCell ⟨w.heap.size,2,none⟩ (.int .u8 y2)).setCell ⟨w.heap.size,3,none⟩ (.int .u8 y3)):=by
 have h0:=World.rowIs_alloc w #[.int .u8 0,.int .u8 0,.int .u8 0,.int .u8 0] t (fun _=>.int .u8 0) (fun i hi=>by
  match i,hi with
  | 0,_=>rfl
  | 1,_=>rfl
  | 2,_=>rfl
  | 3,_=>rfl)
 have h1:=(World.rowIs.of_block (w':=rowW (w.alloc (.cells #[.int .u8 0,.int .u8 0,.int .u8 0,.int .u8 0] t)).drew (s.extract 0 4)) h0 ((rowW_below _ _).block w.heap.size (by simp)))
 have h2:=(((h1.set 0 (.int .u8 y0)).set 1 (.int .u8 y1)).set 2 (.int .u8 y2)).set 3 (.int .u8 y3)
 have hb:Below w.heap.size w (rowW (w.alloc (.cells #[.int .u8 0,.int .u8 0,.int .u8 0,.int .u8 0] t)).drew (s.extract 0 4)):=
  (((Below.refl w.heap.size w).alloc (Nat.le_refl _) _).drew).trans ((rowW_below _ _).mono (by simp))
 refine ⟨w.heap.size,rfl,rfl,Nat.le_refl _,(((hb.setCell (Nat.le_refl _) _).setCell (Nat.le_refl _) _).setCell (Nat.le_refl _) _).setCell (Nat.le_refl _) _,?_,?_,?_,?_⟩
 ·simpa using h2.cell (i:=0) (by simp)
 ·simpa using h2.cell (i:=1) (by simp)
 ·simpa using h2.cell (i:=2) (by simp)
 ·simpa using h2.cell (i:=3) (by simp)
theorem keep_cell {wc w2:World} {o:Obj} {k g j:Nat} {v:Value} (hb:Below ((wc.alloc o).drewN k).heap.size ((wc.alloc o).drewN k) w2) (h:wc.cell? ⟨g,j,none⟩=some v):w2.cell? ⟨g,j,none⟩=some v:=by
 have hlt:=World.block_lt_of_cell? _ _ h
 have h1:=hb.cell (p:=⟨g,j,none⟩) (by simp [World.drewN];exact Nat.lt_succ_of_lt hlt)
 rw [h1]
 exact (World.cell?_alloc_lt wc o ⟨g,j,none⟩ hlt).trans h
theorem keep_below {wc w2:World} {o:Obj} {k:Nat} (hb:Below ((wc.alloc o).drewN k).heap.size ((wc.alloc o).drewN k) w2):Below wc.heap.size wc w2:=
 (below_drewN ((Below.refl wc.heap.size wc).alloc (Nat.le_refl _) o) k).trans (hb.mono (by simp [World.drewN]))
theorem eq4_yes {y0 y1 y2 y3 x0 x1 x2 x3:Nat} (h:y0=x0∧y1=x1∧y2=x2∧y3=x3) (w:World) :
 (Op.equalIn 10000 247 (.agg #[.int .u8 y0,.int .u8 y1,.int .u8 y2,.int .u8 y3]) (.agg #[.int .u8 x0,.int .u8 x1,.int .u8 x2,.int .u8 x3])).run Tryz.prog w = .ok true w:=by
 rw [eq4]
 obtain ⟨rfl,rfl,rfl,rfl⟩:=h
 simp
theorem eq4_no {y0 y1 y2 y3 x0 x1 x2 x3:Nat} (h:¬ (y0=x0∧y1=x1∧y2=x2∧y3=x3)) (w:World) :
 (Op.equalIn 10000 247 (.agg #[.int .u8 y0,.int .u8 y1,.int .u8 y2,.int .u8 y3]) (.agg #[.int .u8 x0,.int .u8 x1,.int .u8 x2,.int .u8 x3])).run Tryz.prog w = .ok false w:=by
 rw [eq4]
 congr 1
 rw [Bool.eq_false_iff]
 intro h'
 apply h
 simp only [Bool.and_eq_true,beq_iff_eq] at h'
 omega
def openB (s:ByteArray):Bool:=decide (4≤s.size∧s.data.toList.take 4=numB 4 (crcL (s.data.toList.drop 4)))
def openS (s:ByteArray):ByteArray:=if openB s then s.extract 4 s.size else ⟨#[]⟩
theorem by8_map_inj {l m:List UInt8} (h:l.map by8=m.map by8):l=m:=by
 induction l generalizing m with
 | nil=>cases m<;>simp_all
 | cons a l ih=>
  cases m with
  | nil=>simp at h
  | cons b m=>
   simp only [List.map_cons,List.cons.injEq] at h
   obtain ⟨h1,h2⟩:=h
   rw [ih h2]
   unfold by8 at h1
   injection h1 with _ h1
   have e:a=b:=UInt8.toNat_inj.1 (by omega)
   rw [e]
theorem openB_iff {s t:ByteArray} {n:Nat} {y0 y1 y2 y3 x0 x1 x2 x3:Nat} (h4:4≤s.size) (ht:t=s.extract 4 s.size) (hn:n=crcL t.data.toList) (hl:n<4294967296)
 (hy:(s.data.toList.take 4).map by8=[.int .u8 y0,.int .u8 y1,.int .u8 y2,.int .u8 y3]) (hh:headV n = #[.int .u8 x0,.int .u8 x1,.int .u8 x2,.int .u8 x3]) :
 openB s=true↔(y0=x0∧y1=x1∧y2=x2∧y3=x3):=by
 have hx:(numB 4 n).map by8=[.int .u8 x0,.int .u8 x1,.int .u8 x2,.int .u8 x3]:=by
  have:=headV_by8 n hl
  rw [hh] at this
  exact (congrArg Array.toList this).symm
 rw [ht,drop_list] at hn
 unfold openB
 rw [decide_eq_true_eq,←hn]
 constructor
 ·rintro ⟨_,h⟩
  rw [h,hx] at hy
  simp only [List.cons.injEq,Value.int.injEq,and_true,true_and] at hy
  omega
 ·rintro ⟨rfl,rfl,rfl,rfl⟩
  exact ⟨h4,by8_map_inj (hy.trans hx.symm)⟩
theorem eq_guard:Tryz.prog.eqGuardType Tryz.prog.depth 247=false:=by kernel_rfl
set_option maxRecDepth 100000 in
theorem open_long (b:Nat) (s:ByteArray) (w:World) (h:Tab w b) (h4:4≤s.size) (hs:s.size≤1000000):Calls Tryz.prog 138 #[.pointer (some ⟨b,0,none⟩),.string s] w fun e w'=>e = .returned (.tuple #[.string (openS s),.bool (openB s)])∧Below w.heap.size w w':=by
 have HT:=Lib.hid h
 clear h
 have hcv:=fun W=>rowW_conv W (s.extract 0 4)
 have har:=arr_at
 obtain ⟨y0,y1,y2,y3,hy,hc0,hc1,hc2,hc3⟩:=row4 s h4
 have HY:=Lib.hid hy
 clear hy
 have hlt:w.drew.heap.size<(rowW w.drew (s.extract 0 4)).heap.size:=by rw [rowW_size];omega
 have d0:(rowW w.drew (s.extract 0 4)).cell? ⟨w.heap.size,0,none⟩=some (.int .u8 y0):=hc0 w.drew _ rfl
 have d1:(rowW w.drew (s.extract 0 4)).cell? ⟨w.heap.size,1,none⟩=some (.int .u8 y1):=hc1 w.drew _ rfl
 have d2:(rowW w.drew (s.extract 0 4)).cell? ⟨w.heap.size,2,none⟩=some (.int .u8 y2):=hc2 w.drew _ rfl
 have d3:(rowW w.drew (s.extract 0 4)).cell? ⟨w.heap.size,3,none⟩=some (.int .u8 y3):=hc3 w.drew _ rfl
 have e0:∀ o,((rowW w.drew (s.extract 0 4)).alloc o).cell? ⟨w.heap.size,0,none⟩=some (.int .u8 y0):=fun o=>(World.cell?_alloc_lt _ o ⟨w.heap.size,0,none⟩ hlt).trans d0
 have e1:∀ o,((rowW w.drew (s.extract 0 4)).alloc o).cell? ⟨w.heap.size,1,none⟩=some (.int .u8 y1):=fun o=>(World.cell?_alloc_lt _ o ⟨w.heap.size,1,none⟩ hlt).trans d1
 have e2:∀ o,((rowW w.drew (s.extract 0 4)).alloc o).cell? ⟨w.heap.size,2,none⟩=some (.int .u8 y2):=fun o=>(World.cell?_alloc_lt _ o ⟨w.heap.size,2,none⟩ hlt).trans d2
 have e3:∀ o,((rowW w.drew (s.extract 0 4)).alloc o).cell? ⟨w.heap.size,3,none⟩=some (.int .u8 y3):=fun o=>(World.cell?_alloc_lt _ o ⟨w.heap.size,3,none⟩ hlt).trans d3
 clear hlt
 have hkc:=fun W g j=>rowW_old W (s.extract 0 4) g j
 have hkf:=fun W g j=>rowW_free W (s.extract 0 4) g j
 have hsz:=fun W=>rowW_size W (s.extract 0 4)
 have htz:(s.extract 0 4).size=4:=by simp [ByteArray.size_extract];omega
 have hn4:(4:Int)≤(s.size:Int):=by omega
 go_enter Tryz.func138,Tryz.ntmps138
 go_wp2_with fail
 go_cut [6,7] from 15 to 21 (fun p t wx=>Told w s y0 y1 y2 y3 p t wx)
 case first=>
  go_region
  all_goals
   go_wp2_with fail
   go_meet
   first|exact told_new w s y0 y1 y2 y3 _|exact told_old w s y0 y1 y2 y3 _
 case rest=>
  obtain ⟨g,rfl,rfl,hge,hb,c0,c1,c2,c3⟩:=hcut
  clear hcv har hc0 hc1 hc2 hc3 d0 d1 d2 d3 e0 e1 e2 e3 hkc hkf hsz
  have HT2:=Lib.hid (HT.out.below hb HT.out.lt)
  have HB:=Lib.hid hb
  clear hb
  obtain ⟨t,ht⟩:∃ t,t=s.extract 4 s.size:=⟨_,rfl⟩
  have hts:t.size≤1000000:=by rw [ht];simp [ByteArray.size_extract];omega
  rw [←ht]
  have HTT:=Lib.hid ht
  obtain ⟨n,hn⟩:∃ n,n=crcL t.data.toList:=⟨_,rfl⟩
  have hlt:=crcL_lt t.data.toList
  rw [←hn] at hlt
  obtain ⟨x0,x1,x2,x3,hh⟩:∃ x0 x1 x2 x3:Nat,headV n = #[.int .u8 x0,.int .u8 x1,.int .u8 x2,.int .u8 x3]:=⟨_,_,_,_,rfl⟩
  have HN:=Lib.hid hn
  have HH:=Lib.hid hh
  have HO:=Lib.hid (openB_iff h4 ht hn hlt HY.out hh)
  have hgd:=eq_guard
  clear ht hn hh
  go_wp2_with fail
  by_cases heq:y0=x0∧y1=x1∧y2=x2∧y3=x3
  all_goals
   have HEQ:=Lib.hid heq
   first|(have hq:=eq4_yes heq)|(have hq:=eq4_no heq)
   clear heq
   go_region_held3 (fun w'=>w'.cell? ⟨g,0,none⟩=some (.int .u8 y0)∧w'.cell? ⟨g,1,none⟩=some (.int .u8 y1)∧w'.cell? ⟨g,2,none⟩=some (.int .u8 y2)∧w'.cell? ⟨g,3,none⟩=some (.int .u8 y3))
    (first|exact ⟨k0,k1,k2,k3⟩|go_keep)
    (first
     | (go_at_call 182
        refine (sum_one b t n _ _ HN.out hts (Tab.alloc (w:=wc.drew) HT2.out _) (strs_one wc.drew t)).mono ?_
        rintro e w1 ⟨rfl,k,rfl⟩)
     | (go_at_call 181
        refine (headOf_x n _ hlt HH.out).mono ?_
        rintro e w2 ⟨rfl,hb2⟩
        have k0:=keep_cell hb2 c0
        have k1:=keep_cell hb2 c1
        have k2:=keep_cell hb2 c2
        have k3:=keep_cell hb2 c3
        have HB2:=Lib.hid (keep_below hb2)
        clear hb2))
  all_goals
   have HB3:=Lib.hid (HB.out.trans (HB2.out.mono HB.out.size))
   go_wp2_with fail
   go_ret2
   refine ⟨?_,HB3.out⟩
   first
    | (have ho:openB s=true:=HO.out.2 HEQ.out
       rw [openS,ho,if_pos rfl,←HTT.out]
       rfl)
    | (have ho:openB s=false:=Bool.eq_false_iff.2 fun h=>HEQ.out (HO.out.1 h)
       rw [openS,ho,if_neg (by decide)]
       rfl)
theorem open_any (b:Nat) (s:ByteArray) (w:World) (h:Tab w b) (hs:s.size≤1000000):Calls Tryz.prog 138 #[.pointer (some ⟨b,0,none⟩),.string s] w fun e w'=>e = .returned (.tuple #[.string (openS s),.bool (openB s)])∧Below w.heap.size w w':=by
 by_cases h4:4≤s.size
 ·exact open_long b s w h h4 hs
 ·refine (open_short b s w (by omega)).mono ?_
  rintro e w' ⟨rfl,rfl⟩
  have ho:openB s=false:=by unfold openB;rw [decide_eq_false_iff_not];exact fun h=>h4 h.1
  rw [openS,ho,if_neg (by decide)]
  exact ⟨rfl,Below.refl _ _⟩
theorem list_of (l:List UInt8):(⟨l.toArray⟩:ByteArray).data.toList=l:=rfl
theorem size_of (l:List UInt8):(⟨l.toArray⟩:ByteArray).size=l.length:=rfl
theorem openB_def (s:ByteArray):openB s=true↔4≤s.data.toList.length∧s.data.toList.take 4=numB 4 (crcL (s.data.toList.drop 4)):=by
 unfold openB
 rw [decide_eq_true_eq]
 rfl
theorem sealB_length (s:ByteArray):(sealB s).length=4+s.size:=by
 unfold sealB
 rw [List.length_append,numB_length]
 rfl
theorem sealB_take (s:ByteArray):(sealB s).take 4=numB 4 (crcL s.data.toList):=by
 unfold sealB
 rw [List.take_left' (numB_length 4 _)]
theorem sealB_drop (s:ByteArray):(sealB s).drop 4=s.data.toList:=by
 unfold sealB
 rw [List.drop_left' (numB_length 4 _)]
theorem sealed_opens (s:ByteArray):openB ⟨(sealB s).toArray⟩=true:=by
 rw [openB_def,list_of,sealB_take,sealB_drop,sealB_length]
 exact ⟨by omega,rfl⟩
theorem sealed_back (s:ByteArray):openS ⟨(sealB s).toArray⟩=s:=by
 rw [openS,sealed_opens,if_pos rfl]
 apply ByteArray.ext
 apply Array.toList_inj.1
 rw [drop_list,list_of,sealB_drop]
end Go.Proofs.YtajmeimjaapagaaGreatDoor.Cr
