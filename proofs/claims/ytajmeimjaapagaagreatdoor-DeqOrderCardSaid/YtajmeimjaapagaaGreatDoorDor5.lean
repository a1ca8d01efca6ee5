/- A part. -/
import Derived.Deep.OwnRows
import Derived.Test.YtajmeimjaapagaaGreatDoorDor4
set_option linter.unusedVariables false
set_option linter.unusedSimpArgs false
namespace Go.Proofs.YtajmeimjaapagaaGreatDoor.Oc
open Go.RowKit Go.Deep
def textS (s:ByteArray) (most:Int):ByteArray×ByteArray×Int:=
 if (numS s 2).2.2=0 then (if most<(numS s 2).1 then (⟨#[]⟩,⟨#[]⟩,6) else cutS (numS s 2).2.1 (numS s 2).1) else (⟨#[]⟩,⟨#[]⟩,(numS s 2).2.2)
theorem cutText_any (s:ByteArray) (most:Int) (w:World) {t rest:ByteArray} {x:Int} (hc:textS s most=(t,rest,x)):Calls Tryz.prog 212 #[.string s,.int .i64 most] w fun e w'=>e = .returned (.tuple #[.string t,.string rest,.int .i64 x])∧∃ k,w'=w.drewN k:=by
 unfold textS at hc
 obtain ⟨v,r,y,hy⟩:∃ v r y,numS s 2=(v,r,y):=⟨_,_,_,rfl⟩
 rw [hy] at hc
 have HY:=Lib.hid hy
 clear hy
 by_cases h0:y=0
 ·subst h0
  simp only [if_true] at hc
  by_cases h1:most<(v:Int)
  ·rw [if_pos h1] at hc
   simp only [Prod.mk.injEq] at hc
   obtain ⟨rfl,rfl,rfl⟩:=hc
   go_enter Tryz.func212,Tryz.ntmps212
   go_wp2_with fail
   refine (cutNum_any _ _ _ HY.out).mono ?_
   rintro e w' ⟨rfl,k0,rfl⟩
   go_wp2_with fail
   go_ret3
   exact ⟨rfl,_,rfl⟩
  ·rw [if_neg h1] at hc
   have HC:=Lib.hid hc
   clear hc
   go_enter Tryz.func212,Tryz.ntmps212
   go_wp2_with fail
   refine (cutNum_any _ _ _ HY.out).mono ?_
   rintro e w' ⟨rfl,k0,rfl⟩
   go_wp2_with fail
   refine (cut_any _ _ _ HC.out).mono ?_
   rintro e w' ⟨rfl,k1,rfl⟩
   go_wp2_with fail
   go_ret3
   exact ⟨rfl,k0+k1,by simp [World.drewN]⟩
 ·rw [if_neg h0] at hc
  simp only [Prod.mk.injEq] at hc
  obtain ⟨rfl,rfl,rfl⟩:=hc
  have hb:(y == 0)=false:=by simpa using h0
  clear h0
  go_enter Tryz.func212,Tryz.ntmps212
  go_wp2_with fail
  refine (cutNum_any _ _ _ HY.out).mono ?_
  rintro e w' ⟨rfl,k0,rfl⟩
  go_wp2_with fail
  go_ret3
  exact ⟨rfl,_,rfl⟩
theorem text_none (b:Nat) (s:ByteArray) (n x:Int) (w:World) (h:Rd w b s x) (hx:x≠0):Calls Tryz.prog 183 #[.pointer (some ⟨b,0,none⟩),.int .i64 n] w fun e w'=>e = .returned (.string ⟨#[]⟩)∧w=w':=by
 have hb:(x == 0)=false:=by simpa using hx
 have H:=Lib.hid h
 clear h hx
 go_enter Tryz.func183,Tryz.ntmps183
 go_wp2_with (go_at_call 121;refine (err_any _ _ _ _ H.out).mono ?_;rintro e w' ⟨rfl,rfl⟩)
 go_ret
 exact ⟨rfl,rfl⟩
theorem text_any (b:Nat) (s:ByteArray) (n:Int) (w:World) (h:Rd w b s 0) {t rest:ByteArray} {x:Int} (hc:textS s n=(t,rest,x)):Calls Tryz.prog 183 #[.pointer (some ⟨b,0,none⟩),.int .i64 n] w fun e w'=>e = .returned (.string t)∧Rd w' b (goS s rest x) x∧w.grownBy w' (some b):=by
 have h1:=h.rest
 have H:=Lib.hid h
 have HC:=Lib.hid hc
 clear h hc
 go_enter Tryz.func183,Tryz.ntmps183
 go_wp2_with fail
 refine (err_any _ _ _ _ H.out).mono ?_
 rintro e w' ⟨rfl,rfl⟩
 go_wp2_with fail
 refine (cutText_any _ _ _ HC.out).mono ?_
 rintro e w' ⟨rfl,k,rfl⟩
 go_wp2_with fail
 refine (goOn_any b s rest x _ (H.out.drewN k)).mono ?_
 rintro e w' ⟨rfl,hr,hg⟩
 have HR:=Lib.hid hr
 have HG:=Lib.hid (grownBy_trans (grownBy_drewN w k _) hg)
 clear hr hg
 go_wp2
 go_ret
 exact ⟨rfl,HR.out,HG.out⟩
def textsS (most:Int):Nat→ByteArray→List ByteArray→List ByteArray×ByteArray×Int
 | 0,s,acc=>(acc,s,0)
 | n+1,s,acc=>if (textS s most).2.2=0 then textsS most n (textS s most).2.1 (acc ++ [(textS s most).1]) else ([],⟨#[]⟩,(textS s most).2.2)
def listS (s:ByteArray) (many most:Int):List ByteArray×ByteArray×Int:=
 if (numS s 1).2.2=0 then (if many<(numS s 1).1 then ([],⟨#[]⟩,6) else textsS most (numS s 1).1 (numS s 1).2.1 []) else ([],⟨#[]⟩,(numS s 1).2.2)
def Strs (w:World) (base:Nat) (v:Value) (ts:List ByteArray):Prop:=
 ∃ a cap,v = .slice a ts.length cap∧(ts=[]∨∃ b o,a=some ⟨b,o,none⟩∧base≤b∧∀ i,i<ts.length→w.cell? ⟨b,o+i,none⟩=some (.string (ts.getD i ⟨#[]⟩)))
theorem numS_lt {s r:ByteArray} {n:Nat} {v:Nat} {y:Int} (h:numS s n=(v,r,y)):v<256 ^ n:=by
 unfold numS at h
 have hp:0<256 ^ n:=Nat.pow_pos (by decide)
 split at h
 ·split at h
  ·rename_i h0
   obtain ⟨t,r',hc⟩:∃ t r',cutS s n=(t,r',0):=⟨(cutS s n).1,(cutS s n).2.1,by rw [←h0]⟩
   have hs:=cutS_size hc
   rw [hc] at h
   simp only [Prod.mk.injEq] at h
   rw [←h.1]
   have:=getN_lt t.data.toList
   rwa [show t.data.toList.length=n by have:t.data.toList.length=t.size:=rfl
                                       omega] at this
  ·(simp only [Prod.mk.injEq] at h;omega)
 ·(simp only [Prod.mk.injEq] at h;omega)
theorem grownBy_new {a b:World} (h:a.grownBy b none) (nq:Nat) {p:Addr} (hp:a.heap.size≤p.block) (u:Value):a.grownBy ((b.drewN nq).setCell p u) none:=
 ⟨h.os,h.tape,h.output,by have:=h.size;simpa [World.setCell],fun k hk hn=>by rw [Below.heap_setCell _ _ _ _ (by omega)];exact h.block k hk hn⟩
theorem row_snoc {w:World} {B n:Nat} {acc:List ByteArray} (h:w.rowIs B 9 n (fun i=>.string (acc.getD i ⟨#[]⟩))) (t:ByteArray) (nq:Nat) :
 ((w.drewN nq).setCell ⟨B,acc.length,none⟩ (.string t)).rowIs B 9 n (fun i=>.string ((acc ++ [t]).getD i ⟨#[]⟩)):=by
 have h':(w.drewN nq).rowIs B 9 n (fun i=>.string (acc.getD i ⟨#[]⟩)):=h
 refine (h'.set acc.length (.string t)).congr fun i _=>?_
 by_cases e:i=acc.length
 ·subst e;simp
 ·simp only [e,if_false]
  rcases Nat.lt_or_ge i acc.length with g|g
  ·simp [List.getD_eq_getElem?_getD,List.getElem?_append_left g]
  ·simp [List.getD_eq_getElem?_getD,List.getElem?_eq_none g,List.getElem?_eq_none (l:=acc ++ [t]) (show (acc ++ [t]).length≤i by simp;omega)]
theorem Strs.kept {w w':World} {base:Nat} {v:Value} {ts:List ByteArray} (h:Strs w base v ts) {r:Option Nat} (hg:w.grownBy w' r) (hr:∀ k,r=some k→k<base):Strs w' base v ts:=by
 obtain ⟨a,cap,rfl,h⟩:=h
 refine ⟨a,cap,rfl,?_⟩
 rcases h with h|⟨b,o,rfl,hb,h⟩
 ·exact .inl h
 ·exact .inr ⟨b,o,rfl,hb,fun i hi=>hg.cell (h i hi) (fun e=>by have:=hr _ e.symm;simp at this;omega)⟩
theorem Rd.same {w w':World} {b:Nat} {s:ByteArray} {e:Int} (h:Rd w b s e) (hg:w.grownBy w' none):Rd w' b s e:=by
 unfold Rd;rw [hg.block b h.lt (by simp)];exact h
theorem grownBy_wide {a b:World} (h:a.grownBy b none) (r:Option Nat):a.grownBy b r:=⟨h.os,h.tape,h.output,h.size,fun k hk _=>h.block k hk (by simp)⟩
theorem list_none (b:Nat) (s:ByteArray) (n m x:Int) (w:World) (h:Rd w b s x) (hx:x≠0):Calls Tryz.prog 184 #[.pointer (some ⟨b,0,none⟩),.int .i64 n,.int .i64 m] w fun e w'=>e = .returned (.slice none 0 0)∧w=w':=by
 have hb:(x == 0)=false:=by simpa using hx
 have H:=Lib.hid h
 clear h hx
 go_enter Tryz.func184,Tryz.ntmps184
 go_wp2_with (go_at_call 121;refine (err_any _ _ _ _ H.out).mono ?_;rintro e w' ⟨rfl,rfl⟩)
 go_ret
 exact ⟨rfl,rfl⟩
def numB:Nat→Nat→List UInt8
 | 0,_=>[]
 | n+1,x=>UInt8.ofNat (x / 256 ^ n) :: numB n x
theorem numB_length (n x:Nat):(numB n x).length=n:=by
 induction n with
 | zero=>rfl
 | succ n ih=>simp [numB,ih]
def by8 (c:UInt8):Value:=.int .u8 c.toNat
def Bys (w:World) (base:Nat) (v:Value) (l:List UInt8):Prop:=w.ownsRow base 5 1 v l.length (l.map by8)
theorem info5:(Tryz.prog.info? 5).map (fun i=>(i.zero,i.size,i.bytes))=some (some (.int .u8 0),1,1):=by kernel_rfl
theorem by8_shift (x m:Nat):Value.int .u8 ((x:Int) / 2 ^ (8*m) % 256)=by8 (UInt8.ofNat (x / 256 ^ m)):=by
 unfold by8
 have h:((x:Int) / 2 ^ (8*m) % 256)=((x / 256 ^ m % 256:Nat):Int):=by
  rw [show (256:Nat) ^ m=2 ^ (8*m) from by rw [Nat.pow_mul]]
  rw [Int.natCast_emod,Int.natCast_ediv,Int.natCast_pow]
  rfl
 rw [h,UInt8.toNat_ofNat']
theorem bys_snoc {w:World} {B x m:Nat} {v:Value} {acc:List UInt8} (h:w.ownsRow B 5 1 v (acc.length+1) (acc.map by8 ++ [.int .u8 ((x:Int) / 2 ^ (8*m) % 256)])):Bys w B v (acc ++ [UInt8.ofNat (x / 256 ^ m)]):=by
 unfold Bys
 rw [by8_shift] at h
 simpa using h
def BysPost (w:World) (B:Nat) (l:List UInt8) (e:Ending) (w':World):Prop:=∃ v,e = .returned v∧Bys w' B v l∧Below B w w'
set_option maxHeartbeats 400000 in
theorem appendNum_any (B:Nat) (v:Value) (l:List UInt8) (n x:Nat) (w:World) (hn:n≤7) (_hx:x<256 ^ 7) (hl:l.length≤1000000000) (h:Bys w B v l) (hB:B≤w.heap.size) :
 Calls Tryz.prog 174 #[v,.int .i64 n,.int .i64 x] w (BysPost w B (l ++ numB n x)):=by
 obtain ⟨i0,hi,hz0,hz1,hz2⟩:=info_parts info5
 have H:=Lib.hid h
 clear h
 go_enter Tryz.func174,Tryz.ntmps174
 go_wp2_with fail
 go_loopw [0,1] (fun b i wr=>∃ (acc:List UInt8) (k:Nat),acc.length+k≤l.length+n∧k≤7∧i = .int .i64 k∧acc ++ numB k x=l ++ numB n x∧Bys wr B b acc∧Below B w wr) (fun _ i _=>(intOf i).toNat)
 case atStart=>exact ⟨l,n,Nat.le_refl _,hn,rfl,rfl,H.out,Below.refl _ _⟩
 case round=>
  obtain ⟨acc,k,hle,hk,rfl,heq,hown,hbel⟩:=hrel
  have HEQ:=Lib.hid heq
  have HOWN:=Lib.hid hown
  have HBEL:=Lib.hid hbel
  clear heq hown hbel
  by_cases hlt:0<k
  ·obtain ⟨m,rfl⟩:∃ m,k=m+1:=⟨k - 1,by omega⟩
   go_wp2_with (at_builtin;go_must (refine wpList_append_own _ rfl _ _ 65 rfl B 5 i0 (.int .u8 0) 1 1 Tryz.underlying65 hi hz0 hz1 hz2 rfl (by decide) _ _ _ rfl (HOWN.out.alloc _) ⟨wr.heap.size,0,none⟩ 1 1 [.int .u8 ((x:Int) / 2 ^ (8*m) % 256)] rfl rfl (cell_one_new _ _ _) ?c2 ?c3 ?c4 ?c5 ?_))
   case c2=>intro u hu;simp at hu;subst hu;rfl
   case c3=>unfold maxLen;omega
   case c4=>omega
   case c5=>have:=HBEL.out.size;simp;omega
   intro v' w1 hown' hgrow _
   have HOWN':=Lib.hid (bys_snoc hown')
   have HBEL':=Lib.hid ((HBEL.out.alloc (by have:=HBEL.out.size;omega) (.cells #[.int .u8 ((x:Int) / 2 ^ (8*m) % 256)] 5)).grown hgrow (by have:=HBEL.out.size;simp;omega) (fun k hk=>(HOWN.out.lt k hk).1))
   clear hown' hgrow
   go_wp2_with fail
   go_roundw
   case rel=>exact ⟨acc ++ [UInt8.ofNat (x / 256 ^ m)],m,by simp;omega,by omega,rfl,by rw [←HEQ.out];simp [numB],HOWN'.out,HBEL'.out⟩
   case measure=>simp [intOf]
  ·obtain rfl:k=0:=by omega
   go_wp2_with fail
   go_ret
   refine ⟨_,rfl,?_,HBEL.out⟩
   have:=HEQ.out
   simp only [numB,List.append_nil] at this
   rw [←this]
   exact HOWN.out
def IntsOf (k:IntKind) (w:World) (v:Value) (zs:List Int):Prop:=
 ∃ a cap,v = .slice a zs.length cap∧(zs=[]∨∃ b o,a=some ⟨b,o,none⟩∧∀ i,i<zs.length→w.cell? ⟨b,o+i,none⟩=some (.int k (zs.getD i 0)))
abbrev Ints:=IntsOf .i64
def FitN (n:Nat) (x:Int):Prop:=0≤x∧x<256 ^ n
instance (n:Nat) (x:Int):Decidable (FitN n x):=inferInstanceAs (Decidable (_∧_))
def numsB (n:Nat) (zs:List Int):List UInt8:=zs.flatMap fun x=>numB n x.toNat
theorem numsB_length (n:Nat) (zs:List Int):(numsB n zs).length=n*zs.length:=by
 unfold numsB
 induction zs with
 | nil=>simp
 | cons z zs ih=>simp only [List.flatMap_cons,List.length_append,numB_length,ih,List.length_cons];rw [Nat.mul_add];omega
theorem numsB_snoc (n:Nat) (zs:List Int) (k:Nat) (h:k<zs.length):numsB n (zs.take (k+1))=numsB n (zs.take k) ++ numB n (zs.getD k 0).toNat:=by
 unfold numsB
 rw [List.take_succ_eq_append_getElem h,List.flatMap_append,List.flatMap_singleton,List.getD_eq_getElem?_getD,List.getElem?_eq_getElem h]
 rfl
theorem bys_string {w:World} {B:Nat} {v:Value} {l:List UInt8} (h:Bys w B v l):(convert 65 9 v).run Tryz.prog w = .ok (.string ⟨l.toArray⟩) w:=by
 rcases h.2 with ⟨rfl,h0⟩|⟨g,cap,cur,rfl,_⟩
 ·have:l=[]:=List.eq_nil_of_length_eq_zero h0
  subst this
  exact run_convert_bytes_nil w 65 5 Tryz.underlying65 Tryz.underlying5 0 0 9 Tryz.underlying9
 ·refine run_convert_bytes_back w 65 9 5 _ cap l Tryz.underlying65 Tryz.underlying5 Tryz.underlying9 fun j hj=>?_
  exact h.cells rfl j _ (by simp [List.getElem?_map,List.getElem?_eq_getElem hj,by8])
theorem wrap_pow (n:Nat) (h:n≤7):wrap64 (2 ^ (8*n))=256 ^ n:=by
 rw [show (2:Int) ^ (8*n)=256 ^ n from by rw [Int.pow_mul];rfl]
 match n,h with
 | 0,_|1,_|2,_|3,_|4,_|5,_|6,_|7,_=>exact IntWalk.wrap64_in _ ⟨by omega,by omega⟩
set_option maxHeartbeats 400000 in
set_option maxRecDepth 100000 in
theorem numS_ok (n:Nat) (v:Value) (zs:List Int) (w:World) (h1:1≤n) (h7:n≤7) (hlen:zs.length≤1000000) (hv:Ints w v zs) (hf:∀ x∈zs,FitN n x) :
 Calls Tryz.prog 128 #[.int .i64 n,v] w fun e w'=>e = .returned (.tuple #[.string ⟨(numsB n zs).toArray⟩,.int .i64 0])∧Below w.heap.size w w':=by
 obtain ⟨a,cap,rfl,hc⟩:=hv
 obtain ⟨i0,hi,hz0,hz1,hz2⟩:=info_parts info5
 have HC:=Lib.hid hc
 have HF:=Lib.hid hf
 have HD:=Lib.hid (decide_eq_true (show 1≤(n:Int)∧(n:Int)≤7 by omega))
 have hmul:n*zs.length≤7*1000000:=Nat.mul_le_mul h7 hlen
 have HB:Hid (((n:Int)*(zs.length:Int))=((n*zs.length:Nat):Int)):=Lib.hid (by simp)
 clear hc hf
 go_enter Tryz.func128,Tryz.ntmps128
 go_wp2_with fail
 refine (isWidth_any _ _).mono ?_
 rintro e w' ⟨rfl,rfl⟩
 rw [HD.out]
 go_wp2_with (at_make;go_must (refine wpList_make_own _ rfl _ _ 65 rfl w.heap.size 5 i0 (.int .u8 0) 1 Tryz.underlying65 hi hz0 hz1 .i64 .i64 _ (n*zs.length) rfl rfl HB.out ?c1 ?c2 ?c3 ?_))
 case c1=>rw [hz2];omega
 case c2=>unfold maxLen;omega
 case c3=>exact Nat.le_refl _
 intro w1 hown hgr
 have HOWN:=Lib.hid hown
 have HBEL:=Lib.hid ((Below.refl w.heap.size w).grown hgr (Nat.le_refl _) (fun k hk=>by cases hk))
 clear hown hgr
 go_wp2_with fail
 go_loopw [6,19] (fun b i wr=>∃ k:Nat,k≤zs.length∧i = .int .i64 k∧Bys wr w.heap.size b (numsB n (zs.take k))∧Below w.heap.size w wr) (fun _ i _=>zs.length - (intOf i).toNat)
 case atStart=>exact ⟨0,Nat.zero_le _,rfl,by unfold Bys;simpa [numsB] using HOWN.out,HBEL.out⟩
 case round=>
  obtain ⟨k,hk,rfl,hown,hbel⟩:=hrel
  have HOWN':=Lib.hid hown
  have HBEL':=Lib.hid hbel
  clear hown hbel
  by_cases hlt:k<zs.length
  ·rcases HC.out with hnil|⟨b,o,rfl,hcell⟩
   ·simp [hnil] at hlt
   have hck:=(HBEL'.out.cell (World.block_lt_of_cell? _ _ (hcell k hlt))).trans (hcell k hlt)
   obtain ⟨x,hx⟩:∃ x,zs.getD k 0=x:=⟨_,rfl⟩
   have hfx:FitN n x:=by rw [←hx];exact HF.out _ (by simp [List.getD_eq_getElem?_getD,List.getElem?_eq_getElem hlt])
   rw [hx] at hck
   have HX:=Lib.hid hx
   clear hcell hx
   obtain ⟨hx0,hx1⟩:=hfx
   obtain ⟨y,rfl⟩:=Int.eq_ofNat_of_zero_le hx0
   have hy:y<256 ^ 7:=by
    have h:y<256 ^ n:=Int.ofNat_lt.1 (by rw [Int.natCast_pow];exact hx1)
    exact Nat.lt_of_lt_of_le h (Nat.pow_le_pow_right (by decide) h7)
   have HYY:=Lib.hid hy
   rw [←wrap_pow n h7] at hx1
   have hll:(numsB n (zs.take k)).length≤1000000000:=by
    rw [numsB_length]
    have:n*(zs.take k).length≤7*1000000:=Nat.mul_le_mul h7 (by rw [List.length_take];omega)
    omega
   have HLL:=Lib.hid hll
   have HSZ:=Lib.hid HBEL'.out.size
   clear hy hll
   go_wp2_with fail
   refine (appendNum_any w.heap.size u6 _ n y wr h7 HYY.out HLL.out HOWN'.out HSZ.out).mono ?_
   rintro e w2 ⟨v2,rfl,hown2,hbel2⟩
   have HOWN2:=Lib.hid hown2
   have HBEL2:=Lib.hid (HBEL'.out.trans hbel2)
   clear hown2 hbel2
   go_wp2_with fail
   go_roundw
   case rel=>exact ⟨k+1,by omega,by go_num,by rw [numsB_snoc n zs k hlt,HX.out];exact HOWN2.out,HBEL2.out⟩
   case measure=>simp [intOf];omega
  ·obtain rfl:k=zs.length:=by omega
   have hconv:=bys_string HOWN'.out
   rw [List.take_of_length_le (Nat.le_refl _)] at hconv
   go_wp2_with fail
   go_ret2
   exact ⟨rfl,HBEL'.out⟩
theorem fit_snoc {n:Nat} {zs:List Int} {k:Nat} (h:k<zs.length) (ha:∀ x∈zs.take k,FitN n x) (hx:FitN n (zs.getD k 0)):∀ x∈zs.take (k+1),FitN n x:=by
 intro x hm
 rw [List.take_succ_eq_append_getElem h,List.mem_append] at hm
 rcases hm with hm|hm
 ·exact ha x hm
 ·rw [List.mem_singleton] at hm
  rw [hm]
  rwa [List.getD_eq_getElem?_getD,List.getElem?_eq_getElem h] at hx
set_option maxHeartbeats 400000 in
set_option maxRecDepth 100000 in
theorem numS_range (n:Nat) (v:Value) (zs:List Int) (w:World) (h1:1≤n) (h7:n≤7) (hlen:zs.length≤1000000) (hv:Ints w v zs) (hf:¬ ∀ x∈zs,FitN n x) :
 Calls Tryz.prog 128 #[.int .i64 n,v] w fun e w'=>e = .returned (.tuple #[.string ⟨#[]⟩,.int .i64 2])∧Below w.heap.size w w':=by
 obtain ⟨a,cap,rfl,hc⟩:=hv
 obtain ⟨i0,hi,hz0,hz1,hz2⟩:=info_parts info5
 have HC:=Lib.hid hc
 have HF:=Lib.hid hf
 have HD:=Lib.hid (decide_eq_true (show 1≤(n:Int)∧(n:Int)≤7 by omega))
 have hmul:n*zs.length≤7*1000000:=Nat.mul_le_mul h7 hlen
 have HB:Hid (((n:Int)*(zs.length:Int))=((n*zs.length:Nat):Int)):=Lib.hid (by simp)
 clear hc hf
 go_enter Tryz.func128,Tryz.ntmps128
 go_wp2_with fail
 refine (isWidth_any _ _).mono ?_
 rintro e w' ⟨rfl,rfl⟩
 rw [HD.out]
 go_wp2_with (at_make;go_must (refine wpList_make_own _ rfl _ _ 65 rfl w.heap.size 5 i0 (.int .u8 0) 1 Tryz.underlying65 hi hz0 hz1 .i64 .i64 _ (n*zs.length) rfl rfl HB.out ?c1 ?c2 ?c3 ?_))
 case c1=>rw [hz2];omega
 case c2=>unfold maxLen;omega
 case c3=>exact Nat.le_refl _
 intro w1 hown hgr
 have HOWN:=Lib.hid hown
 have HBEL:=Lib.hid ((Below.refl w.heap.size w).grown hgr (Nat.le_refl _) (fun k hk=>by cases hk))
 clear hown hgr
 go_wp2_with fail
 go_loopw [6,19] (fun b i wr=>∃ k:Nat,k≤zs.length∧i = .int .i64 k∧(∀ x∈zs.take k,FitN n x)∧Bys wr w.heap.size b (numsB n (zs.take k))∧Below w.heap.size w wr) (fun _ i _=>zs.length - (intOf i).toNat)
 case atStart=>exact ⟨0,Nat.zero_le _,rfl,by simp,by unfold Bys;simpa [numsB] using HOWN.out,HBEL.out⟩
 case round=>
  obtain ⟨k,hk,rfl,hall,hown,hbel⟩:=hrel
  have HALL:=Lib.hid hall
  clear hall
  have HOWN':=Lib.hid hown
  have HBEL':=Lib.hid hbel
  clear hown hbel
  by_cases hlt:k<zs.length
  ·rcases HC.out with hnil|⟨b,o,rfl,hcell⟩
   ·simp [hnil] at hlt
   have hck:=(HBEL'.out.cell (World.block_lt_of_cell? _ _ (hcell k hlt))).trans (hcell k hlt)
   obtain ⟨x,hx⟩:∃ x,zs.getD k 0=x:=⟨_,rfl⟩
   rw [hx] at hck
   have HX:=Lib.hid hx
   clear hcell hx
   by_cases hfx:FitN n x
   rotate_left
   ·have hbad:x<0∨0≤x∧wrap64 (2 ^ (8*n))≤x:=by
     rw [wrap_pow n h7]
     rcases Int.lt_or_le x 0 with h|h
     ·exact .inl h
     ·refine .inr ⟨h,?_⟩
      rcases Int.lt_or_le x (256 ^ n) with g|g
      ·exact absurd ⟨h,g⟩ hfx
      ·exact g
    clear hfx
    rcases hbad with hbad|⟨hbad,hbad2⟩
    all_goals
     go_wp2_with fail
     go_ret2
     exact ⟨rfl,HBEL'.out⟩
   have HFX:=Lib.hid hfx
   obtain ⟨hx0,hx1⟩:=hfx
   obtain ⟨y,rfl⟩:=Int.eq_ofNat_of_zero_le hx0
   have hy:y<256 ^ 7:=by
    have h:y<256 ^ n:=Int.ofNat_lt.1 (by rw [Int.natCast_pow];exact hx1)
    exact Nat.lt_of_lt_of_le h (Nat.pow_le_pow_right (by decide) h7)
   have HYY:=Lib.hid hy
   rw [←wrap_pow n h7] at hx1
   have hll:(numsB n (zs.take k)).length≤1000000000:=by
    rw [numsB_length]
    have:n*(zs.take k).length≤7*1000000:=Nat.mul_le_mul h7 (by rw [List.length_take];omega)
    omega
   have HLL:=Lib.hid hll
   have HSZ:=Lib.hid HBEL'.out.size
   clear hy hll
   go_wp2_with fail
   refine (appendNum_any w.heap.size u6 _ n y wr h7 HYY.out HLL.out HOWN'.out HSZ.out).mono ?_
   rintro e w2 ⟨v2,rfl,hown2,hbel2⟩
   have HOWN2:=Lib.hid hown2
   have HBEL2:=Lib.hid (HBEL'.out.trans hbel2)
   clear hown2 hbel2
   go_wp2_with fail
   go_roundw
   case rel=>exact ⟨k+1,by omega,by go_num,fit_snoc hlt HALL.out (by rw [HX.out];exact HFX.out),by rw [numsB_snoc n zs k hlt,HX.out];exact HOWN2.out,HBEL2.out⟩
   case measure=>simp [intOf];omega
  ·obtain rfl:k=zs.length:=by omega
   exact absurd (by simpa using HALL.out) HF.out
def endE (s:ByteArray) (x:Int):Int:=if x=0 then (if 0<s.size then 4 else 0) else x
theorem end_any (b:Nat) (s:ByteArray) (x:Int) (w:World) (h:Rd w b s x):Calls Tryz.prog 185 #[.pointer (some ⟨b,0,none⟩)] w fun e w'=>e = .returned (.int .i64 (endE s x))∧w=w':=by
 have H:=Lib.hid h
 clear h
 by_cases hx:x=0
 ·subst hx
  by_cases hs:0<s.size
  all_goals
   go_enter Tryz.func185,Tryz.ntmps185
   go_wp2_with fail
   refine (err_any _ _ _ _ H.out).mono ?_
   rintro e w' ⟨rfl,rfl⟩
   go_wp2_with fail
   refine (left_any _ _ _ _ H.out).mono ?_
   rintro e w' ⟨rfl,rfl⟩
   go_wp2_with fail
   go_ret
   exact ⟨by simp [endE,hs],rfl⟩
 ·have hb:(x == 0)=false:=by simpa using hx
  have HX:=Lib.hid hx
  clear hx
  go_enter Tryz.func185,Tryz.ntmps185
  go_wp2_with fail
  refine (err_any _ _ _ _ H.out).mono ?_
  rintro e w' ⟨rfl,rfl⟩
  go_wp2_with fail
  go_ret
  exact ⟨by rw [endE,if_neg HX.out];rfl,rfl⟩
def Full (v:Value):Prop:=∃ a n,v = .slice a n n
def ListPostF (w:World) (ts:List ByteArray) (rest:ByteArray) (x:Int) (e:Ending) (w':World):Prop:=
 ∃ v,e = .returned (.tuple #[v,.string rest,.int .i64 x])∧Strs w' w.heap.size v ts∧Full v∧w.grownBy w' none
set_option maxHeartbeats 1000000 in
theorem cutList_full (s:ByteArray) (many most:Int) (w:World) {ts:List ByteArray} {rest:ByteArray} {x:Int} (hc:listS s many most=(ts,rest,x)):Calls Tryz.prog 213 #[.string s,.int .i64 many,.int .i64 most] w (ListPostF w ts rest x):=by
 unfold listS at hc
 obtain ⟨v,r,y,hy⟩:∃ v r y,numS s 1=(v,r,y):=⟨_,_,_,rfl⟩
 rw [hy] at hc
 have hv:v<256:=numS_lt (n:=1) hy
 have HY:=Lib.hid hy
 clear hy
 by_cases h0:y=0
 ·subst h0
  simp only [if_true] at hc
  by_cases h1:many<(v:Int)
  ·rw [if_pos h1] at hc
   simp only [Prod.mk.injEq] at hc
   obtain ⟨rfl,rfl,rfl⟩:=hc
   go_enter Tryz.func213,Tryz.ntmps213
   go_wp2_with fail
   refine (cutNum_any _ _ _ HY.out).mono ?_
   rintro e w' ⟨rfl,k0,rfl⟩
   go_wp2_with fail
   go_ret3
   exact ⟨_,rfl,⟨none,0,rfl,.inl rfl⟩,⟨none,0,rfl⟩,grownBy_drewN _ _ _⟩
  ·rw [if_neg h1] at hc
   have HC:=Lib.hid hc
   clear hc
   have hmk:=fun w=>run_make_row' (P:=Tryz.prog) 34 9 (.string ⟨#[]⟩) 16 Tryz.underlying34 (by kernel_rfl) rfl .i64 .i64 v (by omega) (by omega) w
   go_enter Tryz.func213,Tryz.ntmps213
   go_wp2_with fail
   refine (cutNum_any _ _ _ HY.out).mono ?_
   rintro e w' ⟨rfl,k0,rfl⟩
   go_wp2_with fail
   have hrow:((w.drewN k0).alloc (.cells (madeCells #[.string ⟨#[]⟩] v) 9)).rowIs w.heap.size 9 v (fun i=>.string (([]:List ByteArray).getD i ⟨#[]⟩)):=
    (World.rowIs_made (w.drewN k0) (.string ⟨#[]⟩) v 9).congr fun i _=>by simp
   have hgr:w.grownBy ((w.drewN k0).alloc (.cells (madeCells #[.string ⟨#[]⟩] v) 9)) none:=grownBy_trans (grownBy_drewN w k0 none) (World.grownBy_alloc (w.drewN k0) _ none)
   have HROW:=Lib.hid hrow
   have HGR:=Lib.hid hgr
   clear hrow hgr hmk
   go_loopw [10,11,30] (fun q z i wr=>∃ (acc:List ByteArray) (rk:ByteArray),acc.length≤v∧i = .int .i64 acc.length∧q = .string rk∧z = .int .i64 0∧textsS most (v - acc.length) rk acc=(ts,rest,x)∧wr.rowIs w.heap.size 9 v (fun i=>.string (acc.getD i ⟨#[]⟩))∧w.grownBy wr none) (fun _ _ i _=>v - (intOf i).toNat)
   case atStart=>exact ⟨[],r,Nat.zero_le _,rfl,rfl,rfl,HC.out,HROW.out,HGR.out⟩
   case round=>
    obtain ⟨acc,rk,hk,rfl,rfl,rfl,hres,hrow,hgr⟩:=hrel
    by_cases hlt:acc.length<v
    ·obtain ⟨m,hm⟩:∃ m,v - acc.length=m+1:=⟨v - acc.length - 1,by omega⟩
     rw [hm] at hres
     simp only [textsS] at hres
     obtain ⟨t,q,z,hz⟩:∃ t q z,textS rk most=(t,q,z):=⟨_,_,_,rfl⟩
     rw [hz] at hres
     have HZ:=Lib.hid hz
     have HM:=Lib.hid hm
     clear hz hm
     have hcell:=hrow.cell hlt
     have hfree:=hrow.frozen acc.length
     have HROW':=Lib.hid hrow
     have HGR':=Lib.hid hgr
     clear hrow hgr
     by_cases hz0:z=0
     ·subst hz0
      simp only [if_true] at hres
      have HRES:=Lib.hid hres
      clear hres
      go_wp2_with (go_at_call 212;refine (cutText_any _ _ _ HZ.out).mono ?_;rintro e w' ⟨rfl,k1,rfl⟩)
      refine ⟨⟨acc ++ [t],q,by simp;omega,by simp,rfl,rfl,?_,row_snoc HROW'.out t k1,grownBy_new HGR'.out k1 (Nat.le_refl _) _⟩,by simp [intOf];omega⟩
      rw [←HRES.out]
      congr 1
      have:=HM.out
      simp;omega
     ·rw [if_neg hz0] at hres
      simp only [Prod.mk.injEq] at hres
      obtain ⟨rfl,rfl,rfl⟩:=hres
      have hb:(z == 0)=false:=by simpa using hz0
      clear hz0
      go_wp2_with (go_at_call 212;refine (cutText_any _ _ _ HZ.out).mono ?_;rintro e w' ⟨rfl,k1,rfl⟩)
      go_ret3
      exact ⟨_,rfl,⟨none,0,rfl,.inl rfl⟩,⟨none,0,rfl⟩,grownBy_new HGR'.out k1 (Nat.le_refl _) _⟩
    ·have hl:acc.length=v:=by omega
     rw [hl,Nat.sub_self] at hres
     simp only [textsS,Prod.mk.injEq] at hres
     obtain ⟨rfl,rfl,rfl⟩:=hres
     have HROW':=Lib.hid hrow
     have HGR':=Lib.hid hgr
     have HL:=Lib.hid hl
     clear hrow hgr hl
     go_wp2_with fail
     go_ret3
     refine ⟨_,rfl,⟨some ⟨w.heap.size,0,none⟩,v,?_,.inr ⟨_,_,rfl,Nat.le_refl _,?_⟩⟩,⟨_,_,rfl⟩,HGR'.out⟩
     ·rw [HL.out];rfl
     ·intro i hi
      rw [Nat.zero_add]
      exact HROW'.out.cell (by rw [←HL.out];exact hi)
 ·rw [if_neg h0] at hc
  simp only [Prod.mk.injEq] at hc
  obtain ⟨rfl,rfl,rfl⟩:=hc
  have hb:(y == 0)=false:=by simpa using h0
  clear h0
  go_enter Tryz.func213,Tryz.ntmps213
  go_wp2_with fail
  refine (cutNum_any _ _ _ HY.out).mono ?_
  rintro e w' ⟨rfl,k0,rfl⟩
  go_wp2_with fail
  go_ret3
  exact ⟨_,rfl,⟨none,0,rfl,.inl rfl⟩,⟨none,0,rfl⟩,grownBy_drewN _ _ _⟩
def ListsPostF (w:World) (b:Nat) (ts:List ByteArray) (s:ByteArray) (x:Int) (e:Ending) (w':World):Prop:=
 ∃ v,e = .returned v∧Full v∧Strs w' w.heap.size v ts∧Rd w' b s x∧w.grownBy w' (some b)
theorem list_full (b:Nat) (s:ByteArray) (many most:Int) (w:World) (h:Rd w b s 0) {ts:List ByteArray} {rest:ByteArray} {x:Int} (hc:listS s many most=(ts,rest,x)):Calls Tryz.prog 184 #[.pointer (some ⟨b,0,none⟩),.int .i64 many,.int .i64 most] w (ListsPostF w b ts (goS s rest x) x):=by
 have h1:=h.rest
 have H:=Lib.hid h
 have HC:=Lib.hid hc
 clear h hc
 go_enter Tryz.func184,Tryz.ntmps184
 go_wp2_with fail
 refine (err_any _ _ _ _ H.out).mono ?_
 rintro e w' ⟨rfl,rfl⟩
 go_wp2_with fail
 refine (cutList_full _ _ _ _ HC.out).mono ?_
 rintro e w1 ⟨v,rfl,hs,hfull,hg⟩
 have HFU:=Lib.hid hfull
 clear hfull
 have HS:=Lib.hid hs
 have HG:=Lib.hid hg
 clear hs hg
 go_wp2_with fail
 refine (goOn_any b s rest x _ (H.out.same HG.out)).mono ?_
 rintro e w' ⟨rfl,hr,hg⟩
 have HR:=Lib.hid hr
 have HG2:=Lib.hid hg
 clear hr hg
 go_wp2
 go_ret
 exact ⟨_,rfl,HFU.out,HS.out.kept HG2.out (fun k e=>by cases e;exact H.out.lt),HR.out,grownBy_trans (grownBy_wide HG.out _) HG2.out⟩
end Go.Proofs.YtajmeimjaapagaaGreatDoor.Oc
