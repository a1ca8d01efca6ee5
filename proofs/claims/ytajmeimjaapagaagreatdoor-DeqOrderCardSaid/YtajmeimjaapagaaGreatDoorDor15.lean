/- A part. -/
import Derived.Deep.AppendLies
import Derived.Deep.AppendSrc
import Derived.Test.YtajmeimjaapagaaGreatDoorDor11
set_option linter.unusedVariables false
set_option linter.unusedSimpArgs false
namespace Go.Proofs.YtajmeimjaapagaaGreatDoor
open Go.RowKit Go.Deep
theorem run_append_keep {P:Program} (w:World) (t ty:TypeId) (base:Nat) (e:TypeId) (i:TypeInfo) (z:Value) (size bytes:Nat) (ht:P.underlying t=some (.slice e)) (hi:P.info? e=some i) (hz:i.zero=some z)
 (hsize:i.size=size) (hby:i.bytes=bytes) (hzs:z.cells.size=size) (hsz:0<size)
 (g0 n cap:Nat) (cur:Array Value) (xs:List Value) (hg:w.heap[g0]? = some (Obj.cells cur e (0,0))) (hnc:n≤cap) (hcm:cap≤maxLen) (hcs:cur.size=cap*size) (htake:cur.toList.take (n*size)=xs) (hxl:xs.length=n*size) (hbg:base≤g0)
 (ad:Addr) (m c:Nat) (news:List Value) (hl:news.length=m*size) (hnews:∀ j u,news[j]? = some u→w.cell? (ad.add j)=some u) (h1:∀ u∈news,u.oneCell'=true)
 (hm:0<m) (h63:n+m≤maxLen) (hbytes:(n+m)*bytes≤140737488355328) (hbase:base≤w.heap.size) :
 ∃ g cap' w',(Builtin.append_ #[t,t] ty #[.slice (some ⟨g0,0,none⟩) n cap,.slice (some ad) m c]).run P w = .ok (.slice (some ⟨g,0,none⟩) (n+m) cap') w' ∧
  w'.ownsRow base e size (.slice (some ⟨g,0,none⟩) (n+m) cap') (n+m) (xs ++ news)∧w.grownBy w' (some g0)∧(g0=g∨g=w.heap.size) ∧
  (cap<n+m→∀ k,k<w.heap.size→w'.heap[k]? = w.heap[k]?) ∧
  (n+m≤cap→g=g0∧∃ cur',w'.heap[g0]? = some (Obj.cells cur' e (0,0))∧cur'.size=cap*size∧cur'.toList.take ((n+m)*size)=xs ++ news):=by
 have hown:w.ownsRow base e size (.slice (some ⟨g0,0,none⟩) n cap) n xs:=⟨hxl,.inr ⟨g0,cap,cur,rfl,hbg,hg,hnc,hcm,hcs,htake⟩⟩
 obtain ⟨g,cap',w',hr,h2,h3,h4,h5⟩:=run_append_lies (P:=P) w t ty base e i z size bytes ht hi hz hsize hby hzs hsz _ n xs hown ad m c news hl hnews h1 hm h63 hbytes hbase _ rfl
 refine ⟨g,cap',w',hr,h2,h3,?_,?_,?_⟩
 ·rcases h4 with h4|h4
  ·exact .inl (Option.some.inj h4)
  ·exact .inr h4
 ·intro hno k hk
  have holds:∀ j u,xs[j]? = some u→w.cell? ((⟨g0,0,none⟩:Addr).add j)=some u:=hown.cells (g:=g0) rfl
  have hr2:=run_append_grow (P:=P) w t ty e i z ht hi hz ⟨g0,0,none⟩ n cap xs (by rw [hsize];exact hxl) holds ad m c news (by rw [hsize];exact hl) hnews (by omega) (by unfold maxLen at h63;omega) (growslice_fits (by omega) (by rw [hby];exact hbytes))
  rw [hr2] at hr
  injection hr with e1 e2
  rw [←e2]
  exact heap_alloc_old w.drew _ hk
 ·intro hroom
  have hfit:n*i.size+news.length≤cur.size:=by rw [hsize,hl,hcs,←Nat.add_mul];exact Nat.mul_le_mul_right _ hroom
  have hr2:=run_append_room (P:=P) w t ty e i ht hi g0 n cap cur hg ad m c news (by rw [hsize];exact hl) hnews h1 hroom hfit
  rw [hr2] at hr
  injection hr with e1 e2
  injection e1 with e3 e4 e5
  injection e3 with e3
  injection e3 with e6 _ _
  subst e6
  refine ⟨rfl,?_⟩
  rcases h2.2 with ⟨hv,_⟩|⟨g1,cap1,cur1,hv,_,hh,_,_,hs1,ht1⟩
  ·cases hv
  ·injection hv with q1 q2 q3
   injection q1 with q1
   injection q1 with q1 _ _
   subst q1
   exact ⟨cur1,hh,by rw [hs1,←q3,e5],ht1⟩
end Go.Proofs.YtajmeimjaapagaaGreatDoor
