/- A part. -/
import Derived.Shelf.Spec.SlicesInsertGrow
import Derived.Test.YtemimmnamajooaaGreatOpl27
set_option linter.unusedVariables false
set_option linter.unusedSimpArgs false
namespace Go.Proofs.YtemimmnamajooaaGreat
open Go.RowKit Go.Deep
def lay : Array Value → Nat → List Value → Array Value
  | cur, _, [] => cur
  | cur, o, v :: r => lay (cur.setIfInBounds o v) (o + 1) r
theorem lay_size : ∀ (vs : List Value) (o : Nat) (cur : Array Value), (lay cur o vs).size = cur.size
  | [], _, _ => rfl
  | v :: r, o, cur => by unfold lay; rw [lay_size r]; simp
theorem put_one (A D r : List Value) (v : Value) : (A ++ v :: D).take (A.length + 1) ++ r ++ (A ++ v :: D).drop (A.length + 1 + r.length) = A ++ v :: r ++ D.drop r.length := by
  have e1 : (A ++ v :: D).take (A.length + 1) = A ++ [v] := by
    rw [List.take_append, List.take_of_length_le (by omega), Nat.add_sub_cancel_left, List.take_succ_cons, List.take_zero]
  have e2 : (A ++ v :: D).drop (A.length + 1 + r.length) = D.drop r.length := by
    rw [List.drop_append, List.drop_of_length_le (by omega), List.nil_append]
    have : A.length + 1 + r.length - A.length = r.length + 1 := by omega
    rw [this, List.drop_succ_cons]
  rw [e1, e2]
  simp
theorem lay_list : ∀ (vs : List Value) (o : Nat) (cur : Array Value), o + vs.length ≤ cur.size → (lay cur o vs).toList = cur.toList.take o ++ vs ++ cur.toList.drop (o + vs.length)
  | [], o, cur, _ => by simp [lay]
  | v :: r, o, cur, h => by
    have hlt : o < cur.toList.length := by rw [Array.length_toList]; simp at h; omega
    unfold lay
    rw [lay_list r (o + 1) _ (by simp at h ⊢; omega), Array.toList_setIfInBounds, List.set_eq_take_append_cons_drop, if_pos hlt]
    have e1 : (cur.toList.take o).length = o := by rw [List.length_take]; omega
    have := put_one (cur.toList.take o) (cur.toList.drop (o + 1)) r v
    rw [e1] at this
    rw [this, List.drop_drop]
    congr 2
    rw [List.length_cons]; omega
theorem heap_lay (g : Nat) (t : TypeId) : ∀ (vs : List Value) (o : Nat) (w : World) (cur : Array Value), w.heap[g]? = some (.cells cur t (0, 0)) → (w.setCells g o vs).heap[g]? = some (.cells (lay cur o vs) t (0, 0))
  | [], _, _, _, h => h
  | v :: r, o, w, cur, h => by
    unfold World.setCells lay
    exact heap_lay g t r (o + 1) _ _ (heap_setCell_same w g o cur t v h)
theorem chg_lay (g : Nat) : ∀ (vs : List Value) (o : Nat) (w : World), Chg (fun k => k = g) w (w.setCells g o vs)
  | [], _, w => Chg.refl _ _
  | v :: r, o, w => by
    unfold World.setCells
    exact (Chg.setCell (S := fun k => k = g) (Chg.refl _ w) (fun _ => rfl) v).trans (chg_lay g r (o + 1) _) (fun _ _ e => e)
theorem cells_block {w : World} {g : Nat} {cur : Array Value} {t : TypeId} (h : w.heap[g]? = some (.cells cur t (0, 0))) : (∀ j, j < cur.size → (w.cell? ⟨g, j, none⟩).isSome = true) ∧ ∀ j, w.frozen? ⟨g, j, none⟩ = false := by
  refine ⟨fun j hj => ?_, fun j => by simp [World.frozen?, h]⟩
  simp [World.cell?, h, Array.getElem?_eq_getElem hj]
theorem run_copy4 {P : Program} (w : World) (dT sT ty elem : TypeId) (b o dLen dCap : Nat) (a : Addr) (sLen sCap : Nat) (cs : List Value)
    (hu : P.underlying dT = some (.slice elem)) (hs : (P.info? elem).map (·.size) = some 4) (hn : cs.length = Nat.min sLen dLen * 4)
    (hsrc : ∀ j v, cs[j]? = some v → w.cell? (a.add j) = some v) (hc : ∀ j, j < cs.length → (w.cell? ⟨b, o + j, none⟩).isSome = true) (hf : ∀ j, j < cs.length → w.frozen? ⟨b, o + j, none⟩ = false) (h1 : ∀ v ∈ cs, v.oneCell' = true) :
    (Builtin.copy_ #[dT, sT] ty #[.slice (some ⟨b, o, none⟩) dLen dCap, .slice (some a) sLen sCap]).run P w = .ok (goInt (Nat.min sLen dLen)) (w.setCells b o cs) := by
  have hl := run_loadCells_list (P := P) w a cs hsrc
  have hst := run_storeCells_cells (P := P) b o cs 0 w (by simpa using hc) (by simpa using hf) h1
  cases hq : P.info? elem with
  | none => simp [hq] at hs
  | some i =>
    have hi : i.size = 4 := by simpa [hq] using hs
    simp [Builtin.copy_, run_underlying hu, Builtin.lenOf, Builtin.firstCells, sizeOf, typeInfo, hq, hi, ← hn, hl, hst]
def insL (l : OL) (i : Nat) (x : OfM) : OL := l.take i ++ x :: l.drop i
theorem insL_len (l : OL) (i : Nat) (x : OfM) (hi : i ≤ l.length) : (insL l i x).length = l.length + 1 := by
  unfold insL
  rw [List.length_append, List.length_cons, List.length_take, List.length_drop]
  omega
theorem insL_cs (l : OL) (i : Nat) (x : OfM) : ocs (insL l i x) = ocs (l.take i) ++ (oenc x ++ ocs (l.drop i)) := by
  unfold insL
  rw [ocs_append]
  congr 1
structure InsTo (w : World) (v : Value) (l : OL) (v' : Value) (w' : World) : Prop where
  row : ORow w' v' l
  chg : Chg (fun k => v.ownBlock = some k) w w'
  own : ∀ k, v'.ownBlock = some k → v.ownBlock = some k ∨ w.heap.size ≤ k
theorem shift_pure (C X D R : List Value) (a : Nat) (hX : X.length = 4) (hC : a + 4 ≤ C.length) :
    ((C.take (a + 4) ++ D ++ R).take a ++ X ++ (C.take (a + 4) ++ D ++ R).drop (a + 4)).take (a + 4 + D.length) = C.take a ++ (X ++ D) := by
  have hU : (C.take (a + 4)).length = a + 4 := by rw [List.length_take]; omega
  have t0 : (C.take (a + 4)).take a = C.take a := by rw [List.take_take]; congr 1; omega
  have hA : (C.take a).length = a := by rw [List.length_take]; omega
  have t1 : (C.take (a + 4) ++ D ++ R).take a = C.take a := by rw [List.append_assoc, List.take_append_of_le_length (by omega), t0]
  have t2 : (C.take (a + 4) ++ D ++ R).drop (a + 4) = D ++ R := by
    rw [List.append_assoc, List.drop_append_of_le_length (by omega), List.drop_of_length_le (by omega), List.nil_append]
  rw [t1, t2]
  have t3 : C.take a ++ X ++ (D ++ R) = (C.take a ++ (X ++ D)) ++ R := by simp
  have t4 : (C.take a ++ (X ++ D)).length = a + 4 + D.length := by rw [List.length_append, List.length_append, hA, hX]; omega
  rw [t3, List.take_append_of_le_length (by omega), List.take_of_length_le (by omega)]
theorem ins_shift {w : World} {g cap i : Nat} {l : OL} {x : OfM} {cur : Array Value} (hg : w.heap[g]? = some (.cells cur 32 (0, 0))) (hcs : cur.size = cap * 4) (hcm : cap ≤ maxLen) (htk : cur.toList.take (l.length * 4) = ocs l) (hi : i ≤ l.length) (hr : l.length + 1 ≤ cap) :
    ORow ((w.setCells g ((i + 1) * 4) (ocs (l.drop i))).setCells g (i * 4) (oenc x)) (.slice (some ⟨g, 0, none⟩) (l.length + 1) cap) (insL l i x) := by
  have h1 := heap_lay g _ (ocs (l.drop i)) ((i + 1) * 4) w cur hg
  have h2 := heap_lay g _ (oenc x) (i * 4) _ _ h1
  have hd : (ocs (l.drop i)).length = (l.length - i) * 4 := by rw [ocs_len, List.length_drop]
  obtain ⟨D, hD⟩ : ∃ D, D = ocs (l.drop i) := ⟨_, rfl⟩
  obtain ⟨X, hXe⟩ : ∃ X, X = oenc x := ⟨_, rfl⟩
  have hX : X.length = 4 := by rw [hXe]; rfl
  have hn := insL_len l i x hi
  have hins := insL_cs l i x
  rw [← hD] at h1 h2 hd hins ⊢
  rw [← hXe] at h2 hins ⊢
  have hz : (lay (lay cur ((i + 1) * 4) D) (i * 4) X).size = cap * 4 := by rw [lay_size, lay_size]; exact hcs
  clear hD hXe
  unfold ORow
  rw [hins, hn]
  refine ⟨?_, .inr ⟨g, cap, lay (lay cur ((i + 1) * 4) D) (i * 4) X, rfl, Nat.zero_le _, h2, hr, hcm, hz, ?_⟩⟩
  · rw [List.length_append, List.length_append, ocs_len, List.length_take, hX, hd]; omega
  · skip
    have hcl : cur.toList.length = cap * 4 := by rw [Array.length_toList, hcs]
    have e1 : cur.toList.take (i * 4) = ocs (l.take i) := by
      have : cur.toList.take (i * 4) = (cur.toList.take (l.length * 4)).take (i * 4) := by rw [List.take_take]; congr 1; omega
      rw [this, htk, ocs_take]
    have a4 : (i + 1) * 4 = i * 4 + 4 := by omega
    rw [a4]
    rw [← e1]
    have s1 := lay_list D (i * 4 + 4) cur (by rw [hd, hcs]; omega)
    have s2 := lay_list X (i * 4) (lay cur (i * 4 + 4) D) (by rw [lay_size, hX, hcs]; omega)
    rw [s2, s1, hX]
    have e5 : (l.length + 1) * 4 = i * 4 + 4 + D.length := by rw [hd]; omega
    rw [e5]
    exact shift_pure _ _ _ _ _ hX (by omega)
end Go.Proofs.YtemimmnamajooaaGreat
namespace Go.Proofs.YtemimmnamajooaaGreat
open Go.RowKit Go.Deep Go.Lib
def OBox (w : World) (q : Nat) (x : OfM) : Prop := w.heap[q]? = some (.cells #[.string x.g, .string x.t, .int .i64 x.q, .int .i64 x.a] 32 (0, 0))
theorem OBox.cell {w : World} {q : Nat} {x : OfM} (h : OBox w q x) : OCell w q 0 x := by
  unfold OBox at h
  constructor <;> simp [World.cell?, h]
theorem OBox.news {w : World} {q : Nat} {x : OfM} (h : OBox w q x) : ∀ j u, (oenc x)[j]? = some u → w.cell? ((⟨q, 0, none⟩ : Addr).add j) = some u := fun j u hu => by
  rw [vadd_none]
  exact h.cell.all j u hu
set_option maxHeartbeats 1000000 in
theorem ins_append {w : World} {v : Value} {l : OL} {x : OfM} {q : Nat} (h : ORow w v l) (hl : l.length ≤ 1000) (hx : OBox w q x) (ty : TypeId) :
    ∃ v' w', (Builtin.append_ #[30, 30] ty #[v, .slice (some ⟨q, 0, none⟩) 1 1]).run Tryz.prog w = .ok v' w' ∧ InsTo w v (insL l l.length x) v' w' := by
  obtain ⟨i0, hi, hz0, hz1, hz2⟩ := oinfo_parts info_off
  obtain ⟨v', w', hr, k1, k2, _, k3⟩ := run_append_own_at (P := Tryz.prog) (w := w) 0 30 ty 32 i0 _ 4 48 Tryz.underlying30 hi hz0 hz1 hz2 rfl (by decide) v l.length (ocs l) h ⟨q, 0, none⟩ 1 1 (oenc x) rfl hx.news (oenc_one x) (by unfold maxLen; omega) (by omega) (Nat.zero_le _)
  have e1 : insL l l.length x = l ++ [x] := by unfold insL; rw [List.take_length, List.drop_length]
  refine ⟨v', w', hr, ?_, Chg.of_grown k2 (fun k hk _ => hk), fun k hk => ?_⟩
  · rw [e1]
    unfold ORow
    rw [ocs_append, ocs_one1, List.length_append]
    exact k1
  · rcases k3 with e | e
    · exact .inl (e ▸ hk)
    · rw [e] at hk; injection hk with hk; exact .inr (by omega)
def InsP (w : World) (v : Value) (l : OL) (e : Ending) (w' : World) : Prop := ∃ v', e = .returned v' ∧ InsTo w v l v' w'
set_option maxHeartbeats 4000000 in
set_option maxRecDepth 100000 in
theorem insert_end {w : World} {v : Value} {l : OL} {x : OfM} {q : Nat} (h : ORow w v l) (hl : l.length ≤ 1000) (hx : OBox w q x) :
    Calls Tryz.prog 33 #[v, .int .i64 (l.length : Int), .slice (some ⟨q, 0, none⟩) 1 1] w (InsP w v (insL l l.length x)) := by
  have hrun := fun ty => ins_append h hl hx ty
  rcases h.form with ⟨rfl, rfl⟩ | ⟨g, cap, rfl, ho, hnc, hlt, hc⟩
  · obtain ⟨v', w', hr, hto⟩ := hrun 30
    have HR := Lib.hid hr
    have HT := Lib.hid hto
    clear hr hto hrun hx h hl
    show Calls Tryz.prog 33 #[.slice none 0 0, .int .i64 0, .slice (some ⟨q, 0, none⟩) 1 1] w (InsP w (.slice none 0 0) (insL [] 0 x))
    go_enter Tryz.func33, Tryz.ntmps33
    go_wp2_with (at_builtin; refine Lib.wpList_append_run _ rfl _ _ _ _ rfl _ _ rfl rfl _ _ HR.out ?_)
    go_ret
    exact ⟨_, rfl, HT.out⟩
  · obtain ⟨v', w', hr, hto⟩ := hrun 30
    have hcap : cap ≤ 9223372036854775807 := by
      rcases h.2 with ⟨e, _⟩ | ⟨g2, cap2, cur, e, _, _, _, h3, _⟩
      · cases e
      · injection e with _ _ e3; unfold maxLen at h3; omega
    obtain ⟨n, hn⟩ : ∃ n, n = l.length := ⟨_, rfl⟩
    rw [← hn] at hr hto hnc hl ⊢
    by_cases hcn : cap = n
    · subst hcn
      have HR := Lib.hid hr
      have HT := Lib.hid hto
      have HN := Lib.hid hn
      clear hr hto hrun hx h hn hc ho hlt
      go_enter Tryz.func33, Tryz.ntmps33
      go_wp2_with (at_builtin; refine Lib.wpList_append_run _ rfl _ _ _ _ rfl _ _ rfl rfl _ _ HR.out ?_)
      all_goals
        go_ret
        exact ⟨_, rfl, HT.out⟩
    · have HR := Lib.hid hr
      have HT := Lib.hid hto
      have HN := Lib.hid hn
      clear hr hto hrun hx h hn hc ho hlt
      go_enter Tryz.func33, Tryz.ntmps33
      go_wp2_with (at_builtin; refine Lib.wpList_append_run _ rfl _ _ _ _ rfl _ _ rfl rfl _ _ HR.out ?_)
      all_goals
        go_ret
        exact ⟨_, rfl, HT.out⟩
theorem shape_of {w : World} {g : Nat} {cur : Array Value} {t : TypeId} {fr : Nat × Nat} (h : w.heap[g]? = some (.cells cur t fr)) : w.shape? g = some (t, cur.size) := by simp [World.shape?, h]
set_option maxHeartbeats 8000000 in
set_option maxRecDepth 100000 in
theorem insert_room {w : World} {l : OL} {x : OfM} {g cap q i : Nat} {cur : Array Value} (hg : w.heap[g]? = some (.cells cur 32 (0, 0))) (hcs : cur.size = cap * 4) (hcm : cap ≤ maxLen) (htk : cur.toList.take (l.length * 4) = ocs l)
    (h : ORow w (.slice (some ⟨g, 0, none⟩) l.length cap) l) (hl : l.length ≤ 1000) (hi : i < l.length) (hr : l.length + 1 ≤ cap) (hx : OBox w q x) (hq : q ≠ g) :
    Calls Tryz.prog 33 #[.slice (some ⟨g, 0, none⟩) l.length cap, .int .i64 (i : Int), .slice (some ⟨q, 0, none⟩) 1 1] w (InsP w (.slice (some ⟨g, 0, none⟩) l.length cap) (insL l i x)) := by
  have hsz : (Tryz.prog.info? 32).map (·.size) = some 4 := by
    obtain ⟨i0, hi0, _, h1, _⟩ := oinfo_parts info_off
    rw [hi0]; simp [h1]
  obtain ⟨D, hD⟩ : ∃ D, D = ocs (l.drop i) := ⟨_, rfl⟩
  have hdl : D.length = (l.length - i) * 4 := by rw [hD, ocs_len, List.length_drop]
  have hres := ins_shift (w := w.drew) (x := x) hg hcs hcm htk (Nat.le_of_lt hi) hr
  rw [← hD] at hres
  obtain ⟨W1, hW1⟩ : ∃ W1, W1 = w.drew.setCells g ((i + 1) * 4) D := ⟨_, rfl⟩
  have hgd : w.drew.heap[g]? = some (.cells cur 32 (0, 0)) := hg
  have hg1 : W1.heap[g]? = some (.cells (lay cur ((i + 1) * 4) D) 32 (0, 0)) := by rw [hW1]; exact heap_lay g _ D _ w.drew cur hgd
  have hc0 := cells_block hgd
  have hc1 := cells_block hg1
  have hoD : ∀ j u, D[j]? = some u → w.drew.cell? ((⟨g, i * 4, none⟩ : Addr).add j) = some u := fun j u hj => by
    rw [vadd_none]
    have hk : (ocs l)[i * 4 + j]? = some u := by rw [hD, ← ocs_drop, List.getElem?_drop] at hj; exact hj
    have := World.ownsRow.cells h (g := g) rfl _ _ hk
    rw [vadd_none, Nat.zero_add] at this
    exact this
  have hqb : W1.heap[q]? = some (.cells #[.string x.g, .string x.t, .int .i64 x.q, .int .i64 x.a] 32 (0, 0)) := by
    rw [hW1]
    exact (chg_lay g D _ w.drew).heap (show w.drew.heap[q]? = _ from hx) (fun e => hq e)
  have hchg : Chg (fun k => (Value.slice (some ⟨g, 0, none⟩) l.length cap).ownBlock = some k) w (W1.setCells g (i * 4) (oenc x)) := by
    have c1 : Chg (fun k => k = g) w W1 := by rw [hW1]; exact ((Chg.refl _ w).drew).trans (chg_lay g D _ w.drew) (fun _ _ e => e)
    exact (c1.trans (chg_lay g (oenc x) _ W1) (fun _ _ e => e)).wide (fun k _ e => by rw [e]; rfl)
  have hov : ∀ (W : World) lb cb, W.heap[q]? = some (.cells #[.string x.g, .string x.t, .int .i64 x.q, .int .i64 x.a] 32 (0, 0)) → W.heap[g]? = some (.cells cur 32 (0, 0)) → (callFunc 64 #[.slice (some ⟨q, 0, none⟩) 1 1, .slice (some ⟨g, (i + 1) * 4, none⟩) lb cb]).run Tryz.prog W = .ok (.value (.bool false)) W := fun W lb cb h1 h2 => by
    rw [run_callFunc_extern Tryz.func64 (by kernel_rfl) (by kernel_rfl) (by kernel_rfl) (e := Extern.SlicesOverlaps.overlaps #[30, 30] #[4]) (by kernel_rfl),
      Lib.run_overlaps_apart W 30 4 32 Tryz.underlying30 4 (by intro w; kernel_rfl) ⟨q, 0, none⟩ ⟨g, (i + 1) * 4, none⟩ 1 1 lb cb hq 32 32 _ _ (shape_of h1) (shape_of h2) (by rw [hcs]; omega) ((cells_block h1).2 _) ((cells_block h1).2 _)]
    rfl
  have hov1 := fun lb cb => hov w lb cb hx hg
  have hcp1 : ∀ ty dc sc, (Builtin.copy_ #[30, 30] ty #[.slice (some ⟨g, (i + 1) * 4, none⟩) (l.length - i) dc, .slice (some ⟨g, i * 4, none⟩) (l.length + 1 - i) sc]).run Tryz.prog w.drew = .ok (goInt (Nat.min (l.length + 1 - i) (l.length - i))) W1 := fun ty dc sc => by
    rw [hW1]
    exact run_copy4 w.drew _ _ ty 32 g ((i + 1) * 4) (l.length - i) dc ⟨g, i * 4, none⟩ (l.length + 1 - i) sc D Tryz.underlying30 hsz (by rw [hdl]; congr 1; simp only [Nat.min_def]; split <;> omega) hoD
      (fun j hj => hc0.1 _ (by rw [hcs]; omega)) (fun j hj => hc0.2 _) (by rw [hD]; exact ocs_one _)
  have hmin : Nat.min 1 (l.length + 1 - i) = 1 := by simp only [Nat.min_def]; split <;> omega
  have hcp2 : ∀ (W : World), W.heap = W1.heap → ∀ ty dc, (Builtin.copy_ #[30, 30] ty #[.slice (some ⟨g, i * 4, none⟩) (l.length + 1 - i) dc, .slice (some ⟨q, 0, none⟩) 1 1]).run Tryz.prog W = .ok (goInt (Nat.min 1 (l.length + 1 - i))) (W.setCells g (i * 4) (oenc x)) := fun W hW ty dc => by
    have hqW : OBox W q x := by unfold OBox; rw [hW]; exact hqb
    have hcW := cells_block (show W.heap[g]? = _ from by rw [hW]; exact hg1)
    exact run_copy4 W _ _ ty 32 g (i * 4) (l.length + 1 - i) dc ⟨q, 0, none⟩ 1 1 (oenc x) Tryz.underlying30 hsz (by rw [hmin]; rfl) hqW.news
      (fun j hj => hcW.1 _ (by rw [lay_size, hcs]; have : (oenc x).length = 4 := rfl; omega)) (fun j hj => hcW.2 _) (oenc_one x)
  rw [← hW1] at hres
  have hC1 : ∀ ty dc sc, (Builtin.copy_ #[30, 30] ty #[.slice (some ⟨g, (i + 1) * 4, none⟩) (l.length - i) dc, .slice (some ⟨g, i * 4, none⟩) (l.length + 1 - i) sc]).run Tryz.prog w.drew = .ok (goInt (Nat.min (l.length + 1 - i) (l.length - i))) W1 := hcp1
  obtain ⟨n, hn⟩ : ∃ n, n = l.length := ⟨_, rfl⟩
  rw [← hn] at hC1 hcp2 hres hchg hi hr hl ⊢
  have HC1 := Lib.hid hC1
  have HC2 := Lib.hid hcp2
  have HOV := Lib.hid hov1
  have HRES := Lib.hid hres
  have HCHG := Lib.hid hchg
  have HN := Lib.hid hn
  have hcap : cap ≤ 9223372036854775807 := by unfold maxLen at hcm; omega
  have hz2 : ¬ ((i : Int) = (n : Int)) := by omega
  have hb2 : ¬ (cap = i + 1) := by omega
  have hb4 : ¬ (cap = i) := by omega
  have mixed : Tryz.prog.follows Departure.mixedOrders = true := by kernel_rfl
  have hw1 : IntKind.i64.wrap ((i : Int) + 1) = (i : Int) + 1 := by rw [IntKind.wrap_i64]; omega
  have hb1 : (0 : Int) ≤ (i : Int) + 1 := by omega
  have hin : i ≤ n := by omega
  have htn : ((i : Int) + 1).toNat = i + 1 := by omega
  have hb3 : (i : Int) ≤ (n : Int) + 1 := by omega
  have hb5 : (i : Int) + 1 ≤ (n : Int) + 1 := by omega
  clear hC1 hcp1 hcp2 hov hov1 hres hchg hn hg hcs hcm htk h hx hq hsz hD hdl hW1 hgd hg1 hc0 hc1 hoD hqb hmin
  go_enter Tryz.func33, Tryz.ntmps33
  go_wp2_with (simp only [HOV.out])
  have hcp := HC1.out 3 (cap - (i + 1)) (cap - i)
  go_region_law_o (refine step_copy_runI rfl _ _ 30 30 rfl _ _ (by simp [Act.eval, Act.put]) (by simp [Act.eval, Act.put]) (HC1.out _ _ _) ?_)
  clear hcp
  have hcp := HC2.out W1 rfl 3 (cap - i)
  go_wp2_with fail
  go_ret
  exact ⟨_, rfl, HRES.out, HCHG.out, fun k hk => .inl hk⟩
theorem grow_pure (C X D : List Value) (a : Nat) (hX : X.length = 4) (hC : a + 4 ≤ C.length) :
    ((C.take a ++ X ++ C.drop (a + 4)).take (a + 4) ++ D ++ (C.take a ++ X ++ C.drop (a + 4)).drop (a + 4 + D.length)).take (a + 4 + D.length) = C.take a ++ (X ++ D) := by
  have hA : (C.take a).length = a := by rw [List.length_take]; omega
  have hU : (C.take a ++ X).length = a + 4 := by rw [List.length_append, hA, hX]
  have t1 : (C.take a ++ X ++ C.drop (a + 4)).take (a + 4) = C.take a ++ X := by
    rw [List.take_append_of_le_length (by omega), List.take_of_length_le (by omega)]
  rw [t1]
  have t4 : (C.take a ++ X ++ D).length = a + 4 + D.length := by rw [List.length_append, hU]
  rw [List.take_append_of_le_length (by omega), List.take_of_length_le (by omega), List.append_assoc]
set_option maxHeartbeats 8000000 in
set_option maxRecDepth 100000 in
theorem insert_grow {w : World} {l : OL} {x : OfM} {g cap q i : Nat} (hcm : cap ≤ maxLen) (hgl : g < w.heap.size)
    (h : ORow w (.slice (some ⟨g, 0, none⟩) l.length cap) l) (hl : l.length ≤ 1000) (hi : i < l.length) (hnc : l.length ≤ cap) (hr : cap < l.length + 1) (hx : OBox w q x) :
    Calls Tryz.prog 33 #[.slice (some ⟨g, 0, none⟩) l.length cap, .int .i64 (i : Int), .slice (some ⟨q, 0, none⟩) 1 1] w (InsP w (.slice (some ⟨g, 0, none⟩) l.length cap) (insL l i x)) := by
  obtain rfl : cap = l.length := by omega
  obtain ⟨i0, hi0, hz0, hz1, hz2⟩ := oinfo_parts info_off
  have hsz : (Tryz.prog.info? 32).map (·.size) = some 4 := by rw [hi0]; simp [hz1]
  obtain ⟨G, hG⟩ : ∃ G, G = grownCap w (l.length + 1) l.length 32 := ⟨_, rfl⟩
  have hG1 : l.length + 1 ≤ G := by rw [hG]; exact grownCap_ge w _ _ _
  have hG2 : G ≤ maxLen := by rw [hG]; exact grownCap_le_maxLen w _ _ _ (by unfold maxLen; omega)
  obtain ⟨ROW, hROW⟩ : ∃ ROW : Array Value, ROW = (ocs (l.take i)).toArray ++ Builtin.zeroCells (Value.agg #[.string ⟨#[]⟩, .string ⟨#[]⟩, .int .i64 0, .int .i64 0]).cells (l.length + 1 - i) ++ Builtin.zeroCells (Value.agg #[.string ⟨#[]⟩, .string ⟨#[]⟩, .int .i64 0, .int .i64 0]).cells (G - (l.length + 1)) := ⟨_, rfl⟩
  have hzc : ∀ k, (Builtin.zeroCells (Value.agg #[.string ⟨#[]⟩, .string ⟨#[]⟩, .int .i64 0, .int .i64 0]).cells k).size = k * 4 := fun k => by
    simp [Builtin.zeroCells, Value.cells]
    first | done | omega | rfl
  have hRs : ROW.size = G * 4 := by
    rw [hROW, Array.size_append, Array.size_append, hzc, hzc, List.size_toArray, ocs_len, List.length_take]
    omega
  have hcell := fun j u (hj : (ocs l)[j]? = some u) => World.ownsRow.cells h (g := g) rfl j u hj
  have hold : (Builtin.firstCells i0.size i (.slice (some ⟨g, 0, none⟩) i l.length)).run Tryz.prog w.drew = .ok (ocs (l.take i)).toArray w.drew := by
    rw [hz1]
    refine run_firstCells_some w.drew 4 i ⟨g, 0, none⟩ i l.length (ocs (l.take i)) (by rw [ocs_len, List.length_take]; omega) (fun j v hj => ?_)
    rw [← ocs_take, List.getElem?_take] at hj
    split at hj
    · exact hcell j v hj
    · cases hj
  have hkk : (l.length : Int) + 1 - (i : Int) = ((l.length + 1 - i : Nat) : Int) := by omega
  have hik : i + (l.length + 1 - i) = l.length + 1 := by omega
  obtain ⟨W1, hW1⟩ : ∃ W1, W1 = w.drew.alloc (.cells ROW 32) := ⟨_, rfl⟩
  have hrz : ∀ ty, (Builtin.append_ #[30, 3] ty #[.slice (some ⟨g, 0, none⟩) i l.length, .int .i64 ((l.length : Int) + 1 - (i : Int))]).run Tryz.prog w = .ok (.slice (some ⟨w.heap.size, 0, none⟩) (l.length + 1) G) W1 := fun ty => by
    have h := Lib.run_append_grow_zeros w 30 3 ty 32 i0 _ .i64 .i64 Tryz.underlying30 Tryz.underlying3 hi0 hz0 (some ⟨g, 0, none⟩) i l.length (ocs (l.take i)) hold (l.length + 1 - i) (by omega) (by omega) (by omega) (by omega) (by rw [hz2]; omega) (by rw [hz2]; exact growslice_fits (by omega) (by omega))
    rw [hik, ← hG, ← hROW, ← hW1] at h
    rw [hkk]
    exact h
  have hg1 : W1.heap[w.heap.size]? = some (.cells ROW 32 (0, 0)) := by rw [hW1]; exact heap_alloc_new w.drew _
  obtain ⟨X, hX⟩ : ∃ X, X = oenc x := ⟨_, rfl⟩
  obtain ⟨D, hD⟩ : ∃ D, D = ocs (l.drop i) := ⟨_, rfl⟩
  have hXl : X.length = 4 := by rw [hX]; rfl
  have hdl : D.length = (l.length - i) * 4 := by rw [hD, ocs_len, List.length_drop]
  have hge : g ≠ w.heap.size := by omega
  have hwz : w.heap.size = w.drew.heap.size := rfl
  have hb1 : Chg (fun _ => False) w W1 := by rw [hW1]; exact Chg.of_below (((Below.refl w.heap.size w).drew).alloc (Nat.le_refl _) _)
  have hq1 : OBox W1 q x := hb1.heap hx (fun e => e)
  have hcA := cells_block hg1
  have hcpA : (Builtin.copy_ #[30, 30] 3 #[.slice (some ⟨w.heap.size, i * 4, none⟩) (l.length + 1 - i) (G - i), .slice (some ⟨q, 0, none⟩) 1 1]).run Tryz.prog W1 = .ok (goInt (Nat.min 1 (l.length + 1 - i))) (W1.setCells w.heap.size (i * 4) X) :=
    run_copy4 W1 _ _ 3 32 w.heap.size (i * 4) (l.length + 1 - i) (G - i) ⟨q, 0, none⟩ 1 1 X Tryz.underlying30 hsz (by
        have : Nat.min 1 (l.length + 1 - i) = 1 := by simp only [Nat.min_def]; split <;> omega
        rw [this, hXl]) (by rw [hX]; exact hq1.news) (fun j hj => hcA.1 _ (by rw [hRs]; omega)) (fun j hj => hcA.2 _) (by rw [hX]; exact oenc_one x)
  obtain ⟨W2, hW2⟩ : ∃ W2, W2 = W1.setCells w.heap.size (i * 4) X := ⟨_, rfl⟩
  have hg2 : W2.heap[w.heap.size]? = some (.cells (lay ROW (i * 4) X) 32 (0, 0)) := by rw [hW2]; exact heap_lay _ _ X _ _ _ hg1
  have hc2 : Chg (fun k => k = w.heap.size) W1 W2 := by rw [hW2]; exact chg_lay _ X _ _
  have hcB := cells_block (show W2.drew.heap[w.heap.size]? = _ from hg2)
  have hoD : ∀ j u, D[j]? = some u → W2.drew.cell? ((⟨g, i * 4, none⟩ : Addr).add j) = some u := fun j u hj => by
    rw [vadd_none]
    have hk : (ocs l)[i * 4 + j]? = some u := by rw [hD, ← ocs_drop, List.getElem?_drop] at hj; exact hj
    have h0 := hcell _ _ hk
    rw [vadd_none, Nat.zero_add] at h0
    exact hc2.cell (hb1.cell h0 (fun e => e)) (fun e => hge e)
  have hcpB : (Builtin.copy_ #[30, 30] 3 #[.slice (some ⟨w.heap.size, (i + 1) * 4, none⟩) (l.length - i) (G - (i + 1)), .slice (some ⟨g, i * 4, none⟩) (l.length - i) (l.length - i)]).run Tryz.prog W2.drew = .ok (goInt (Nat.min (l.length - i) (l.length - i))) (W2.drew.setCells w.heap.size ((i + 1) * 4) D) :=
    run_copy4 W2.drew _ _ 3 32 w.heap.size ((i + 1) * 4) (l.length - i) (G - (i + 1)) ⟨g, i * 4, none⟩ (l.length - i) (l.length - i) D Tryz.underlying30 hsz (by
        have : Nat.min (l.length - i) (l.length - i) = l.length - i := by simp only [Nat.min_def]; split <;> omega
        rw [this, hdl]) hoD (fun j hj => hcB.1 _ (by rw [lay_size, hRs]; omega)) (fun j hj => hcB.2 _) (by rw [hD]; exact ocs_one _)
  obtain ⟨W3, hW3⟩ : ∃ W3, W3 = W2.drew.setCells w.heap.size ((i + 1) * 4) D := ⟨_, rfl⟩
  have hg3 : W3.heap[w.heap.size]? = some (.cells (lay (lay ROW (i * 4) X) ((i + 1) * 4) D) 32 (0, 0)) := by rw [hW3]; exact heap_lay _ _ D _ _ _ (show W2.drew.heap[w.heap.size]? = _ from hg2)
  have hc3 : Chg (fun k => k = w.heap.size) W2 W3 := by rw [hW3]; exact ((Chg.refl _ W2).drew).trans (chg_lay _ D _ _) (fun _ _ e => e)
  have hto : InsTo w (.slice (some ⟨g, 0, none⟩) l.length l.length) (insL l i x) (.slice (some ⟨w.heap.size, 0, none⟩) (l.length + 1) G) W3 := by
    refine ⟨?_, ?_, fun k hk => ?_⟩
    · have hn := insL_len l i x (Nat.le_of_lt hi)
      have hins := insL_cs l i x
      rw [← hX, ← hD] at hins
      unfold ORow
      rw [hins, hn]
      refine ⟨?_, .inr ⟨w.heap.size, G, _, rfl, Nat.zero_le _, hg3, hG1, hG2, ?_, ?_⟩⟩
      · rw [List.length_append, List.length_append, ocs_len, List.length_take, hXl, hdl]; omega
      · rw [lay_size, lay_size]; exact hRs
      · have hcl : ROW.toList.length = G * 4 := by rw [Array.length_toList, hRs]
        have e1 : ROW.toList.take (i * 4) = ocs (l.take i) := by
          rw [hROW, Array.toList_append, Array.toList_append, List.append_assoc, List.take_append_of_le_length (by simp [ocs_len]; omega), List.take_of_length_le (by simp [ocs_len]; omega)]
        have a4 : (i + 1) * 4 = i * 4 + 4 := by omega
        rw [a4]
        have s1 := lay_list X (i * 4) ROW (by rw [hXl, hRs]; omega)
        have s2 := lay_list D (i * 4 + 4) (lay ROW (i * 4) X) (by rw [lay_size, hdl, hRs]; omega)
        rw [s2, s1, hXl]
        have e5 : (l.length + 1) * 4 = i * 4 + 4 + D.length := by rw [hdl]; omega
        rw [e5, ← e1]
        exact grow_pure _ _ _ _ hXl (by omega)
    · exact ((hb1.wide (S' := fun k => (Value.slice (some ⟨g, 0, none⟩) l.length l.length).ownBlock = some k) (fun _ _ e => e.elim)).trans hc2 (fun k hk e => absurd hk (by omega))).trans hc3 (fun k hk e => absurd hk (by omega))
    · have hk : some w.heap.size = some k := hk
      injection hk with hk
      exact .inr (by omega)
  rw [← hW2] at hcpA
  rw [← hW3] at hcpB
  obtain ⟨n, hn⟩ : ∃ n, n = l.length := ⟨_, rfl⟩
  rw [← hn] at hrz hcpA hcpB hto hi hl hG1 ⊢
  have HTO := Lib.hid hto
  have HRZ := Lib.hid hrz
  have HN := Lib.hid hn
  have hG63 : G ≤ 9223372036854775807 := by unfold maxLen at hG2; omega
  have mixed : Tryz.prog.follows Departure.mixedOrders = true := by kernel_rfl
  have hz2 : ¬ ((i : Int) = (n : Int)) := by omega
  have hz3 : (n : Int) < (n : Int) + 1 := by omega
  have hGi : ¬ (G = i) := by omega
  have hGim : ¬ (G = i + 1) := by omega
  have hci : ¬ (n = i) := by omega
  have hw1 : IntKind.i64.wrap ((i : Int) + 1) = (i : Int) + 1 := by rw [IntKind.wrap_i64]; omega
  have hb1' : (0 : Int) ≤ (i : Int) + 1 := by omega
  have hin : i ≤ n := by omega
  have htn : ((i : Int) + 1).toNat = i + 1 := by omega
  have hb3 : (i : Int) ≤ (n : Int) := by omega
  clear hto hrz hn hW1 hW2 hW3 hg1 hg2 hg3 hc2 hc3 hcA hcB hoD hq1 hb1 hwz hge hdl hXl hX hD hx h hcell hold hkk hik hRs hzc hROW hG hG2 hsz hi0 hz0 hz1 hcm hgl hnc hr
  go_enter Tryz.func33, Tryz.ntmps33
  go_wp2_with (at_builtin; refine Lib.wpList_append_run _ rfl _ _ _ _ rfl _ _ rfl rfl _ _ (HRZ.out _) ?_)
  clear hcpA
  go_region_law_o (refine step_copy_runI rfl _ _ 30 30 rfl _ _ (by simp [Act.eval, Act.put]) (by simp [Act.eval, Act.put]) hcpB ?_)
  clear hcpB
  go_wp2_with fail
  go_ret
  exact ⟨_, rfl, HTO.out⟩
theorem insert_any {w : World} {v : Value} {l : OL} {x : OfM} {q i : Nat} (h : ORow w v l) (hl : l.length ≤ 1000) (hi : i ≤ l.length) (hx : OBox w q x) (hq : ∀ k, v.ownBlock = some k → q ≠ k) :
    Calls Tryz.prog 33 #[v, .int .i64 (i : Int), .slice (some ⟨q, 0, none⟩) 1 1] w (InsP w v (insL l i x)) := by
  by_cases hn : i = l.length
  · subst hn
    exact insert_end h hl hx
  · rcases h.2 with ⟨e, h0⟩ | ⟨g, cap, cur, e, _, hg, h1, h2, h3, h4⟩
    · omega
    · have ho : v.ownBlock = some g := by rw [e]; rfl
      subst e
      rcases Nat.lt_or_ge cap (l.length + 1) with hlt | hge
      · exact insert_grow h2 (Array.getElem?_eq_some_iff.1 hg).1 h hl (by omega) h1 hlt hx
      · exact insert_room hg h3 h2 h4 h hl (by omega) hge hx (hq g ho)
end Go.Proofs.YtemimmnamajooaaGreat
