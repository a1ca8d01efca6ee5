/- A part. -/
import Derived.Test.YtajmeimjaapagaaGreatDoorDor46
import Derived.Test.YtajmeimjaapagaaGreatDoorDor47
set_option linter.unusedVariables false
set_option linter.unusedSimpArgs false
namespace Go.Proofs.YtajmeimjaapagaaGreatDoor
open Go.RowKit Go.Deep
attribute [local go_sem] fr_opt
def wZero:List Nat:=List.replicate 16 0
def WNewOk (w0 w:World) (g:Gh) (st:St) (n:Nat) (hand:Int) (e:Ending) (w':World):Prop:=
 ∃ wb g',e = .returned (.tuple #[.pointer (some ⟨wb,0,none⟩),.int .i64 0])∧w.heap.size≤wb∧WhI w0 w' wb g' (wBegS st (wNames wH st)) (n+2) hand wZero∧Gh.To w g g' w'
theorem wnew_ease {w0 w:World} {g:Gh} {st:St} {n:Nat} {hand:Int} (hd:DiskAt w g st) (hc:Chg (fun _=>False) w0 w) (hlow:∀ k∈g.fp,w0.heap.size≤k) (h:Ease n st) (hn:n≤900000) (hr:96≤(st.cap:Int) - st.size) (hm:∀ p∈st.fs,p.1.size≤maxLen) (h0:0≤hand) (h1:hand≤1099511627776) :
 Calls Tryz.prog 68 #[.pointer (some ⟨g.d,0,none⟩),.int .i64 hand] w (WNewOk w0 w g st n hand):=by
 refine (wnew_any g st n hand w hd h.good hn hm h0 h1).mono ?_
 rintro e w' ⟨g',hd',ht,_,hok⟩
 obtain ⟨m1,m2,m3⟩:=wmade h hr
 obtain ⟨wb,he,hw,hout,hcell⟩:=hok m1
 have hz:=hc.size
 refine ⟨wb,g',he,hw,⟨hd',hc.trans ht.chg (fun i hi hx=>by have:=hlow i hx;omega),fun k hk=>?_,m2,by rw [ht.d];exact hcell,by omega,hout,m3.find,rfl,fun x hx=>?_⟩,ht⟩
 ·rcases ht.fp k hk with a|a
  ·exact hlow k a
  ·omega
 ·rw [List.eq_of_mem_replicate hx];decide
end Go.Proofs.YtajmeimjaapagaaGreatDoor
