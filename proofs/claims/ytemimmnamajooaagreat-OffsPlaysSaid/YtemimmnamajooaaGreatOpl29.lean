/- A part. -/
import Derived.Test.YtemimmnamajooaaGreatOpl12
import Derived.Test.YtemimmnamajooaaGreatOpl28
set_option linter.unusedVariables false
set_option linter.unusedSimpArgs false
namespace Go.Proofs.YtemimmnamajooaaGreat
open Go.RowKit Go.Deep
attribute [local go_sem] fr_opt
def offE (x : OfM) : Int := if groupB x.g = true ∧ topicB x.t = true then (if x.q < 0 ∨ 3 ≤ x.q then 13 else if x.a < 0 ∨ 1099511627776 < x.a then 2 else 0) else 11
theorem offE_zero {x : OfM} (h : offE x = 0) : groupB x.g = true ∧ topicB x.t = true ∧ 0 ≤ x.q ∧ x.q ≤ 2 ∧ 0 ≤ x.a ∧ x.a ≤ 1099511627776 := by
  unfold offE at h
  split at h
  · rename_i h1
    split at h
    · cases h
    · rename_i h2
      split at h
      · cases h
      · rename_i h3
        exact ⟨h1.1, h1.2, by omega, by omega, by omega, by omega⟩
  · cases h
noncomputable def putO (l : OL) (x : OfM) : OL := if hasO l x = true then l.set (posO x l) x else insL l (posO x l) x
noncomputable def osE (l : OL) (x : OfM) : Int := if offE x ≠ 0 then offE x else if hasO l x = true then 0 else if 64 ≤ l.length then 6 else 0
noncomputable def osL (l : OL) (x : OfM) : OL := if osE l x = 0 then putO l x else l
theorem hasO_true {l : OL} {x : OfM} (h : hasO l x = true) : ∃ y, l[posO x l]? = some y ∧ sameK y x := by
  unfold hasO at h
  cases hy : l[posO x l]? with
  | none => rw [hy] at h; cases h
  | some y =>
    rw [hy] at h
    exact ⟨y, rfl, oOrd_zero.1 (of_decide_eq_true h)⟩
set_option maxRecDepth 100000 in
set_option maxHeartbeats 2000000 in
theorem refuses_any (x : OfM) (w : World) (h1 : x.g.size ≤ maxLen) (h2 : x.t.size ≤ maxLen) :
    Calls Tryz.prog 31 #[.agg (oenc x).toArray] w fun e w' => e = .returned (.int .i64 (offE x)) ∧ Below w.heap.size w w' := by
  obtain ⟨x1, x2, x3, x4⟩ := x
  obtain ⟨gb, hgb⟩ : ∃ gb, gb = groupB x1 := ⟨_, rfl⟩
  obtain ⟨tb, htb⟩ : ∃ tb, tb = topicB x2 := ⟨_, rfl⟩
  have hE : offE ⟨x1, x2, x3, x4⟩ = if gb = true ∧ tb = true then (if x3 < 0 ∨ 3 ≤ x3 then 13 else if x4 < 0 ∨ 1099511627776 < x4 then 2 else 0) else 11 := by rw [hgb, htb]; rfl
  rw [hE]
  have hg := fun W => group_any x1 W h1
  have ht := fun W => topic_any x2 W h2
  rw [← hgb] at hg
  rw [← htb] at ht
  obtain ⟨w1, hw1⟩ : ∃ w1, w1 = w.alloc (.cells #[.string x1, .string x2, .int .i64 x3, .int .i64 x4] 32) := ⟨_, rfl⟩
  obtain ⟨sb, hsb⟩ : ∃ sb, sb = w.heap.size := ⟨_, rfl⟩
  have hb1 : Below w.heap.size w w1 := by rw [hw1]; exact (Below.refl _ _).alloc (Nat.le_refl _) _
  have d0 : w1.cell? ⟨sb, 0, none⟩ = some (.string x1) := by rw [hw1, hsb]; simp [go_sem]
  have d1 : w1.cell? ⟨sb, 1, none⟩ = some (.string x2) := by rw [hw1, hsb]; simp [go_sem]
  have d2 : w1.cell? ⟨sb, 2, none⟩ = some (.int .i64 x3) := by rw [hw1, hsb]; simp [go_sem]
  have d3 : w1.cell? ⟨sb, 3, none⟩ = some (.int .i64 x4) := by rw [hw1, hsb]; simp [go_sem]
  have hD : ∀ W, Below w1.heap.size w1 W → W.cell? ⟨sb, 0, none⟩ = some (.string x1) ∧ W.cell? ⟨sb, 1, none⟩ = some (.string x2) ∧ W.cell? ⟨sb, 2, none⟩ = some (.int .i64 x3) ∧ W.cell? ⟨sb, 3, none⟩ = some (.int .i64 x4) := fun W hW => ⟨ukeep hW d0, ukeep hW d1, ukeep hW d2, ukeep hW d3⟩
  have hF : ∀ W, Below w1.heap.size w1 W → Below w.heap.size w W := fun W hW => hb1.trans (hW.mono hb1.size)
  have HG := Lib.hid hg
  have HT := Lib.hid ht
  have HW1 := Lib.hid hw1
  have HSB := Lib.hid hsb
  have HD := Lib.hid hD
  have HF := Lib.hid hF
  unfold oenc
  try dsimp only
  clear hg ht hw1 hsb hD hF hb1 hgb htb hE d1 d2 d3
  cases gb with
  | false =>
    rw [if_neg (by simp)]
    go_enter Tryz.func31, Tryz.ntmps31
    go_upto_region 1 with fail
    rw [← HW1.out, ← HSB.out]
    go_wp2_with fail
    refine (HG.out _).mono ?_
    rintro e w2 ⟨rfl, hb2⟩
    have HB2 := Lib.hid hb2
    clear hb2
    go_wp2_with fail
    go_ret
    exact ⟨rfl, HF.out _ HB2.out⟩
  | true =>
    cases tb with
    | false =>
      rw [if_neg (by simp)]
      go_enter Tryz.func31, Tryz.ntmps31
      go_upto_region 1 with fail
      rw [← HW1.out, ← HSB.out]
      go_wp2_with fail
      refine (HG.out _).mono ?_
      rintro e w2 ⟨rfl, hb2⟩
      obtain ⟨k0, k1, k2, k3⟩ := HD.out w2 hb2
      have HB2 := Lib.hid hb2
      clear hb2
      go_wp2_with fail
      refine (HT.out _).mono ?_
      rintro e w3 ⟨rfl, hb3⟩
      have HB3 := Lib.hid (ubelow_on hb3 HB2.out (Nat.le_refl _))
      clear hb3
      go_wp2_with fail
      go_ret
      exact ⟨rfl, HF.out _ HB3.out⟩
    | true =>
      rw [if_pos (by simp)]
      obtain ⟨q1, hq1⟩ : ∃ q1, q1 = decide (x3 < 0) := ⟨_, rfl⟩
      obtain ⟨q2, hq2⟩ : ∃ q2, q2 = decide (3 ≤ x3) := ⟨_, rfl⟩
      obtain ⟨a1, ha1⟩ : ∃ a1, a1 = decide (x4 < 0) := ⟨_, rfl⟩
      obtain ⟨a2, ha2⟩ : ∃ a2, a2 = decide (1099511627776 < x4) := ⟨_, rfl⟩
      have hR : (if x3 < 0 ∨ 3 ≤ x3 then 13 else if x4 < 0 ∨ 1099511627776 < x4 then 2 else 0 : Int) = if q1 = true ∨ q2 = true then 13 else if a1 = true ∨ a2 = true then 2 else 0 := by rw [hq1, hq2, ha1, ha2]; simp
      rw [hR]
      clear hR
      have q1' := hq1.symm
      have q2' := hq2.symm
      have a1' := ha1.symm
      have a2' := ha2.symm
      clear hq1 hq2 ha1 ha2
      cases q1 <;> cases q2 <;> cases a1 <;> cases a2
      all_goals
        go_enter Tryz.func31, Tryz.ntmps31
        go_upto_region 1 with fail
        rw [← HW1.out, ← HSB.out]
        go_wp2_with fail
        refine (HG.out _).mono ?_
        rintro e w2 ⟨rfl, hb2⟩
        obtain ⟨k0, k1, k2, k3⟩ := HD.out w2 hb2
        have HB2 := Lib.hid hb2
        clear hb2 d0
        go_wp2_with fail
        refine (HT.out _).mono ?_
        rintro e w3 ⟨rfl, hb3⟩
        have HB3 := Lib.hid (ubelow_on hb3 HB2.out (Nat.le_refl _))
        have k2 := ukeep hb3 k2
        have k3 := ukeep hb3 k3
        clear hb3 k0 k1
        go_wp2_with fail
        go_ret
        exact ⟨rfl, HF.out _ HB3.out⟩
theorem ocs_set (l : OL) (i : Nat) (x : OfM) (hi : i < l.length) : ocs (l.set i x) = ocs (l.take i) ++ (oenc x ++ ocs (l.drop (i + 1))) := by
  rw [List.set_eq_take_append_cons_drop, if_pos hi, ocs_append]
  congr 1
theorem ORow.put {w : World} {v : Value} {l : OL} {i : Nat} {x : OfM} {g : Nat} (h : ORow w v l) (hg : v.ownBlock = some g) (hi : i < l.length) : ORow (w.setCells g (i * 4) (oenc x)) v (l.set i x) := by
  rcases h.2 with ⟨e, h0⟩ | ⟨g2, cap, cur, e, _, hb, h1, h2, h3, h4⟩
  · omega
  · have : g2 = g := by rw [e] at hg; injection hg
    subst this
    have k := heap_lay g2 _ (oenc x) (i * 4) w cur hb
    unfold ORow
    rw [ocs_set l i x hi, List.length_set]
    obtain ⟨X, hXe⟩ : ∃ X, X = oenc x := ⟨_, rfl⟩
    have hX : X.length = 4 := by rw [hXe]; rfl
    rw [← hXe] at k ⊢
    clear hXe
    have hz : (lay cur (i * 4) X).size = cap * 4 := by rw [lay_size]; exact h3
    refine ⟨?_, .inr ⟨g2, cap, lay cur (i * 4) X, e, Nat.zero_le _, k, h1, h2, hz, ?_⟩⟩
    · rw [List.length_append, List.length_append, ocs_len, ocs_len, List.length_take, List.length_drop, hX]; omega
    · rw [lay_list _ _ _ (by rw [hX, h3]; omega)]
      have hcl : cur.toList.length = cap * 4 := by rw [Array.length_toList, h3]
      have e1 : cur.toList.take (i * 4) = ocs (l.take i) := by
        have : cur.toList.take (i * 4) = (cur.toList.take (l.length * 4)).take (i * 4) := by rw [List.take_take]; congr 1; omega
        rw [this, h4, ocs_take]
      have e2 : (cur.toList.drop (i * 4 + 4)).take ((l.length - (i + 1)) * 4) = ocs (l.drop (i + 1)) := by
        have : (cur.toList.drop (i * 4 + 4)).take ((l.length - (i + 1)) * 4) = (cur.toList.take (l.length * 4)).drop (i * 4 + 4) := by
          rw [List.drop_take]; congr 1; omega
        rw [this, h4, show i * 4 + 4 = (i + 1) * 4 by omega, ocs_drop]
      rw [e1, hX, List.append_assoc, List.take_append]
      have l1 : (ocs (l.take i)).length = i * 4 := by rw [ocs_len, List.length_take]; omega
      rw [List.take_of_length_le (by omega), l1]
      congr 1
      rw [List.take_append, List.take_of_length_le (by omega), hX]
      congr 1
      rw [← e2]
      congr 1
      omega
structure SetTo2 (w : World) (ob : Nat) (p v : Value) (l' : OL) (v' : Value) (w' : World) : Prop where
  head : OHead w' ob p v' l'
  chg : Chg (fun k => k = ob ∨ v.ownBlock = some k) w w'
  own : ∀ k, v'.ownBlock = some k → v.ownBlock = some k ∨ w.heap.size ≤ k
def SetTo (w : World) (ob : Nat) (p v : Value) (E : Int) (L : OL) (e : Ending) (w' : World) : Prop := e = .returned (.int .i64 E) ∧ ∃ v', SetTo2 w ob p v L v' w'
theorem SetTo2.same {w w' : World} {ob : Nat} {p v : Value} {l : OL} (h : OHead w ob p v l) (hb : Below w.heap.size w w') : SetTo2 w ob p v l v w' :=
  ⟨h.new (Chg.of_below hb), (Chg.of_below hb : Chg (fun _ => False) w w').wide (fun _ _ e => e.elim), fun _ hk => .inl hk⟩
theorem SetTo2.put {w w1 w2 : World} {ob : Nat} {p v v' : Value} {l l' : OL} (h : OHead w ob p v l) (hb : Below w.heap.size w w1) (hi : InsTo w1 v l' v' w2) : OAt w2 ob p v ∧ SetTo2 w ob p v l' v' (w2.setCell ⟨ob, 1, none⟩ v') := by
  have h1 := h.new (Chg.of_below hb)
  have hne := h1.row.apart h1.at_ (by decide)
  have hz := hb.size
  have a2 : OAt w2 ob p v := h1.at_.chg hi.chg (fun e => hne ob e rfl)
  have hne2 := hi.row.apart a2 (by decide)
  have c2 : Chg (fun k => k = ob) w2 (w2.setCell ⟨ob, 1, none⟩ v') := Chg.setCell (S := fun k => k = ob) (Chg.refl _ _) (fun _ => rfl) _
  refine ⟨a2, ⟨?_, hi.row.chg c2 (fun g hg e => hne2 g hg e)⟩, ?_, fun k hk => ?_⟩
  · have := heap_setCell_same w2 ob 1 _ _ v' a2
    unfold OAt
    rw [this]
    rfl
  · refine (((Chg.of_below hb : Chg (fun _ => False) w w1).wide (S' := fun k => k = ob ∨ v.ownBlock = some k) (fun _ _ e => e.elim)).trans hi.chg (fun k _ e => .inr e)).trans c2 (fun k _ e => .inl e)
  · rcases hi.own k hk with e | e
    · exact .inl e
    · exact .inr (by omega)
set_option maxHeartbeats 8000000 in
set_option maxRecDepth 100000 in
theorem set_any {w : World} {ob : Nat} {p v : Value} {l : OL} (x : OfM) (h : OHead w ob p v l) (hr : Rising l) (hl : l.length ≤ 64) (h1 : x.g.size ≤ maxLen) (h2 : x.t.size ≤ maxLen) :
    Calls Tryz.prog 12 #[.pointer (some ⟨ob, 0, none⟩), .agg (oenc x).toArray] w (SetTo w ob p v (osE l x) (osL l x)) := by
  obtain ⟨w1, hw1⟩ : ∃ w1, w1 = w.alloc (.cells #[.string x.g, .string x.t, .int .i64 x.q, .int .i64 x.a] 32) := ⟨_, rfl⟩
  obtain ⟨sb, hsb⟩ : ∃ sb, sb = w.heap.size := ⟨_, rfl⟩
  have hb1 : Below w.heap.size w w1 := by rw [hw1]; exact (Below.refl _ _).alloc (Nat.le_refl _) _
  have d0 : w1.cell? ⟨sb, 0, none⟩ = some (.string x.g) := by rw [hw1, hsb]; simp [go_sem]
  have d1 : w1.cell? ⟨sb, 1, none⟩ = some (.string x.t) := by rw [hw1, hsb]; simp [go_sem]
  have d2 : w1.cell? ⟨sb, 2, none⟩ = some (.int .i64 x.q) := by rw [hw1, hsb]; simp [go_sem]
  have d3 : w1.cell? ⟨sb, 3, none⟩ = some (.int .i64 x.a) := by rw [hw1, hsb]; simp [go_sem]
  have hrf := refuses_any x w1 h1 h2
  have hh1 := h.new (Chg.of_below hb1)
  have hpl : ∀ W, Below w1.heap.size w1 W → Calls Tryz.prog 32 #[.pointer (some ⟨ob, 0, none⟩), .agg (oenc x).toArray] W fun e w' => e = .returned (.tuple #[.int .i64 (posO x l : Nat), .bool (hasO l x)]) ∧ Below W.heap.size W w' := fun W hW => place_any x (hh1.new (Chg.of_below hW)) hr (by omega)
  have hD : ∀ W, Below w1.heap.size w1 W → W.cell? ⟨sb, 0, none⟩ = some (.string x.g) ∧ W.cell? ⟨sb, 1, none⟩ = some (.string x.t) ∧ W.cell? ⟨sb, 2, none⟩ = some (.int .i64 x.q) ∧ W.cell? ⟨sb, 3, none⟩ = some (.int .i64 x.a) := fun W hW => ⟨ukeep hW d0, ukeep hW d1, ukeep hW d2, ukeep hW d3⟩
  have hF : ∀ W, Below w1.heap.size w1 W → Below w.heap.size w W := fun W hW => hb1.trans (hW.mono hb1.size)
  have hSE : osE l x = if offE x ≠ 0 then offE x else if hasO l x = true then 0 else if 64 ≤ l.length then 6 else 0 := rfl
  have hSL : osL l x = if osE l x = 0 then putO l x else l := rfl
  have hPO : putO l x = if hasO l x = true then l.set (posO x l) x else insL l (posO x l) x := rfl
  have hple := posO_le x l
  have hplt : hasO l x = true → posO x l < l.length := fun e => by obtain ⟨y, hy, _⟩ := hasO_true e; exact (List.getElem?_eq_some_iff.1 hy).1
  rw [hSL, hPO, hSE]
  obtain ⟨P, hP⟩ : ∃ P, P = posO x l := ⟨_, rfl⟩
  obtain ⟨B, hB⟩ : ∃ B, B = hasO l x := ⟨_, rfl⟩
  obtain ⟨er, her⟩ : ∃ er, er = offE x := ⟨_, rfl⟩
  rw [← hP] at hpl hple hplt ⊢
  rw [← hB] at hpl hplt ⊢
  rw [← her] at hrf ⊢
  clear hP hB her hSE hSL hPO h1 h2
  obtain ⟨x1, x2, x3, x4⟩ := x
  have HPL := Lib.hid hpl
  have HRF := Lib.hid hrf
  have HD := Lib.hid hD
  have HF := Lib.hid hF
  have HW1 := Lib.hid hw1
  have HSB := Lib.hid hsb
  have HH := Lib.hid h
  have HH1 := Lib.hid hh1
  unfold oenc at HPL HRF ⊢
  try dsimp only at HPL HRF HD HW1 d0 d1 d2 d3 ⊢
  clear hpl hrf hD hF hw1 hsb h hh1 hr hb1
  by_cases he : er = 0
  · subst he
    rw [if_neg (by simp : ¬ ((0 : Int) ≠ 0))]
    cases B with
    | true =>
      have hPl := hplt rfl
      rw [if_pos rfl, if_pos rfl, if_pos rfl]
      clear hplt hple
      have hfin : ∀ W, Below w.heap.size w W → ∀ g, v.ownBlock = some g → SetTo2 w ob p v (l.set P ⟨x1, x2, x3, x4⟩) v (W.setCells g (P * 4) (oenc ⟨x1, x2, x3, x4⟩)) := fun W hW g hg => by
        have hh := HH.out.new (Chg.of_below hW)
        have hc : Chg (fun k => k = g) W (W.setCells g (P * 4) (oenc ⟨x1, x2, x3, x4⟩)) := chg_lay g _ _ _
        have hne := hh.row.apart hh.at_ (by decide)
        exact ⟨⟨hh.at_.chg hc (fun e => hne g hg e.symm), hh.row.put hg hPl⟩, ((Chg.of_below hW : Chg (fun _ => False) w W).wide (S' := fun k => k = ob ∨ v.ownBlock = some k) (fun _ _ e => e.elim)).trans hc (fun k _ e => .inr (e ▸ hg)), fun k hk => .inl hk⟩
      obtain ⟨y, hy⟩ : ∃ y, l[P]? = some y := ⟨_, List.getElem?_eq_getElem hPl⟩
      obtain ⟨g, cap, hv, ho⟩ : ∃ g cap, v = .slice (some ⟨g, 0, none⟩) l.length cap ∧ v.ownBlock = some g := by
        rcases HH.out.row.form with ⟨_, e⟩ | ⟨g, cap, e, e2, _⟩
        · rw [e] at hPl; exact absurd hPl (Nat.not_lt_zero _)
        · exact ⟨g, cap, e, e2⟩
      have hcl : ∀ W, Below w1.heap.size w1 W → (W.cell? ⟨g, P * 4, none⟩ = some (.string y.g) ∧ W.cell? ⟨g, P * 4 + 1, none⟩ = some (.string y.t) ∧ W.cell? ⟨g, P * 4 + 2, none⟩ = some (.int .i64 y.q) ∧ W.cell? ⟨g, P * 4 + 3, none⟩ = some (.int .i64 y.a)) ∧ (∀ j, W.frozen? ⟨g, j, none⟩ = false) ∧ W.cell? ⟨ob, 1, none⟩ = some v := fun W hW => by
        have hh := HH1.out.new (Chg.of_below hW)
        refine ⟨?_, ?_, hh.at_.c1⟩
        · have hrow := hh.row
          rw [hv] at hrow
          obtain ⟨g2, e, hc⟩ := hrow.at_ hy
          injection e with e
          injection e with e
          subst e
          exact ⟨hc.c0, hc.c1, hc.c2, hc.c3⟩
        · rcases hh.row.2 with ⟨e, _⟩ | ⟨g2, cap2, cur, e, _, hb, _⟩
          · rw [e] at hv; cases hv
          · have : g2 = g := by rw [e] at ho; injection ho
            subst this
            exact (cells_block hb).2
      have hfin2 := fun W hW => hfin W hW g ho
      obtain ⟨n, hn⟩ : ∃ n, n = l.length := ⟨_, rfl⟩
      rw [← hn] at hl hPl hv
      have HFI := Lib.hid hfin2
      have HCL := Lib.hid hcl
      have HN := Lib.hid hn
      have HO := Lib.hid ho
      clear hfin hfin2 hcl hn ho hy
      subst hv
      go_enter Tryz.func12, Tryz.ntmps12
      go_upto_region 1 with fail
      rw [← HW1.out, ← HSB.out]
      go_wp2_with fail
      refine HRF.out.mono ?_
      rintro e w2 ⟨rfl, hb2⟩
      obtain ⟨k0, k1, k2, k3⟩ := HD.out w2 hb2
      have HB2 := Lib.hid hb2
      have HP2 := Lib.hid (HPL.out w2 hb2)
      clear hb2 d0 d1 d2 d3
      go_wp2_with fail
      refine HP2.out.mono ?_
      rintro e w3 ⟨rfl, hb3⟩
      have hb3' := ubelow_on hb3 HB2.out (Nat.le_refl _)
      obtain ⟨m0, m1, m2, m3⟩ := HD.out w3 hb3'
      obtain ⟨⟨c0, c1, c2, c3⟩, cz, cv⟩ := HCL.out w3 hb3'
      have z0 := cz (P * 4)
      have z1 := cz (P * 4 + 1)
      have z2 := cz (P * 4 + 2)
      have z3 := cz (P * 4 + 3)
      have HB3 := Lib.hid hb3'
      have HFI3 : Hid (SetTo2 w ob p (.slice (some ⟨g, 0, none⟩) n cap) (l.set P ⟨x1, x2, x3, x4⟩) (.slice (some ⟨g, 0, none⟩) n cap) (w3.drew.setCells g (P * 4) (oenc ⟨x1, x2, x3, x4⟩))) := Lib.hid (HFI.out w3.drew (HF.out _ hb3').drew)
      clear hb3 hb3' k0 k1 k2 k3 cz
      go_upto_region 8 with fail
      go_still_tail 7, (by kernel_rfl)
      change wpList _ _ _ _ _ w3.drew
      have n0 : w3.drew.cell? ⟨g, P * 4, none⟩ = _ := c0
      have n1 : w3.drew.cell? ⟨g, P * 4 + 1, none⟩ = _ := c1
      have n2 : w3.drew.cell? ⟨g, P * 4 + 2, none⟩ = _ := c2
      have n3 : w3.drew.cell? ⟨g, P * 4 + 3, none⟩ = _ := c3
      have y0 : w3.drew.frozen? ⟨g, P * 4, none⟩ = false := z0
      have y1 : w3.drew.frozen? ⟨g, P * 4 + 1, none⟩ = false := z1
      have y2 : w3.drew.frozen? ⟨g, P * 4 + 2, none⟩ = false := z2
      have y3 : w3.drew.frozen? ⟨g, P * 4 + 3, none⟩ = false := z3
      clear c0 c1 c2 c3 z0 z1 z2 z3 m0 m1 m2 m3 cv
      generalize w3.drew = W4 at *
      go_wp2_with fail
      go_ret
      exact ⟨rfl, _, HFI3.out⟩
    | false =>
      rw [if_neg (by simp), if_neg (by simp : ¬ (false = true))]
      clear hplt
      obtain ⟨a, cap, hv⟩ := HH.out.row.len
      obtain ⟨n, hn⟩ : ∃ n, n = l.length := ⟨_, rfl⟩
      rw [← hn] at hl hple hv ⊢
      have HV := Lib.hid hv
      have HN := Lib.hid hn
      clear hn
      by_cases h64 : 64 ≤ n
      · rw [if_pos h64, if_neg (by decide)]
        have hcl : ∀ W, Below w1.heap.size w1 W → W.cell? ⟨ob, 1, none⟩ = some (.slice a n cap) := fun W hW => by rw [← hv]; exact (HH1.out.new (Chg.of_below hW)).at_.c1
        have HCL := Lib.hid hcl
        have h64' : (64 : Int) ≤ (n : Int) := by omega
        clear hcl hv h64
        go_enter Tryz.func12, Tryz.ntmps12
        go_upto_region 1 with fail
        rw [← HW1.out, ← HSB.out]
        go_wp2_with fail
        refine HRF.out.mono ?_
        rintro e w2 ⟨rfl, hb2⟩
        obtain ⟨k0, k1, k2, k3⟩ := HD.out w2 hb2
        have HB2 := Lib.hid hb2
        have HP2 := Lib.hid (HPL.out w2 hb2)
        clear hb2 d0 d1 d2 d3
        go_wp2_with fail
        refine HP2.out.mono ?_
        rintro e w3 ⟨rfl, hb3⟩
        have hb3' := ubelow_on hb3 HB2.out (Nat.le_refl _)
        have cv := HCL.out w3 hb3'
        have HB3 := Lib.hid hb3'
        clear hb3 hb3' k0 k1 k2 k3
        go_wp2_with fail
        go_ret
        exact ⟨rfl, v, SetTo2.same HH.out (HF.out _ HB3.out)⟩
      · rw [if_neg h64, if_pos rfl]
        obtain ⟨l2, hl2⟩ : ∃ l2, l2 = insL l P ⟨x1, x2, x3, x4⟩ := ⟨_, rfl⟩
        rw [← hl2]
        have hcl : ∀ W, Below w1.heap.size w1 W → W.cell? ⟨ob, 1, none⟩ = some v := fun W hW => (HH1.out.new (Chg.of_below hW)).at_.c1
        have hins : ∀ W q, Below w1.heap.size w1 W → OBox W q ⟨x1, x2, x3, x4⟩ → w1.heap.size ≤ q → Calls Tryz.prog 33 #[v, .int .i64 (P : Int), .slice (some ⟨q, 0, none⟩) 1 1] W (InsP W v l2) := fun W q hW hq hq2 => by
          rw [hl2]
          exact insert_any (HH1.out.new (Chg.of_below hW)).row (by have := HN.out; omega) (by rw [← HN.out]; exact hple) hq (fun k hk e => by have := HH1.out.row.lt k hk; omega)
        have hob : ∀ W v' w', Below w1.heap.size w1 W → InsTo W v l2 v' w' → w'.cell? ⟨ob, 1, none⟩ = some v ∧ w'.frozen? ⟨ob, 1, none⟩ = false := fun W v' w' hW hi => by
          obtain ⟨a2, _⟩ := SetTo2.put (HH1.out) hW hi
          exact ⟨a2.c1, a2.fz 1⟩
        have hput : ∀ W v' w', Below w1.heap.size w1 W → InsTo W v l2 v' w' → SetTo2 w ob p v l2 v' (w'.setCell ⟨ob, 1, none⟩ v') := fun W v' w' hW hi => (SetTo2.put HH.out (HF.out W hW) hi).2
        have HCL := Lib.hid hcl
        have HINS0 := Lib.hid hins
        have HOB0 := Lib.hid hob
        have HPUT0 := Lib.hid hput
        have h64' : ¬ (64 : Int) ≤ (n : Int) := by omega
        clear hcl hins hob hput h64 hl2 hv
        go_enter Tryz.func12, Tryz.ntmps12
        go_upto_region 1 with fail
        rw [← HW1.out, ← HSB.out]
        go_wp2_with fail
        refine HRF.out.mono ?_
        rintro e w2 ⟨rfl, hb2⟩
        obtain ⟨k0, k1, k2, k3⟩ := HD.out w2 hb2
        have HB2 := Lib.hid hb2
        have HP2 := Lib.hid (HPL.out w2 hb2)
        clear hb2 d0 d1 d2 d3
        go_wp2_with fail
        refine HP2.out.mono ?_
        rintro e W0 ⟨rfl, hb3⟩
        have hb3' := ubelow_on hb3 HB2.out (Nat.le_refl _)
        obtain ⟨m0, m1, m2, m3⟩ := HD.out W0 hb3'
        have cv := HCL.out W0 hb3'
        have hcvs : W0.cell? ⟨ob, 1, none⟩ = some (.slice a n cap) := by rw [cv, HV.out]
        have HCV := Lib.hid cv
        clear cv k0 k1 k2 k3
        go_upto_region 12 with fail
        obtain ⟨WA, hWA⟩ : ∃ WA, WA = W0.alloc (.cells #[.string x1, .string x2, .int .i64 x3, .int .i64 x4] 32) := ⟨_, rfl⟩
        have hbA : Below w1.heap.size w1 WA.drew := by rw [hWA]; exact (hb3'.alloc hb3'.size _).drew
        have hqA : OBox WA.drew W0.heap.size ⟨x1, x2, x3, x4⟩ := by rw [hWA]; exact heap_alloc_new W0 _
        have cvA : WA.cell? ⟨ob, 1, none⟩ = some v := by rw [hWA]; exact ukeep ((Below.refl W0.heap.size W0).alloc (Nat.le_refl _) _) HCV.out
        have HINS := Lib.hid (HINS0.out WA.drew W0.heap.size hbA hqA hb3'.size)
        have HOB : Hid (∀ v' w', InsTo WA.drew v l2 v' w' → w'.cell? ⟨ob, 1, none⟩ = some v ∧ w'.frozen? ⟨ob, 1, none⟩ = false) := Lib.hid (fun v' w' hi => HOB0.out _ v' w' hbA hi)
        have HFIN : Hid (∀ v' w', InsTo WA.drew v l2 v' w' → SetTo2 w ob p v l2 v' (w'.setCell ⟨ob, 1, none⟩ v')) := Lib.hid (fun v' w' hi => HPUT0.out _ v' w' hbA hi)
        have HWA := Lib.hid hWA
        have cv := HCV.out
        clear hbA hqA hWA hb3 hb3' hcvs
        rename_i Kc hc
        refine region_ph (n := 46) 12 [7, 8, 11] rfl rfl (by kernel_rfl) (by kernel_rfl) (by kernel_rfl) (fun i u => match i with | 0 => u = .pointer (some ⟨ob, 0, none⟩) | 1 => u = .pointer (some ⟨ob, 0, none⟩) | 2 => u = .pointer (some ⟨ob, 0, none⟩) | 3 => u = .pointer (some ⟨ob, 1, none⟩) | 4 => u = v | 5 => u = .int .i64 (P : Int) | 6 => u = .agg #[.string x1, .string x2, .int .i64 x3, .int .i64 x4] | 7 => u = .slice (some ⟨W0.heap.size, 0, none⟩) 1 1 | 9 => u = .pointer (some ⟨ob, 0, none⟩) | 10 => u = .pointer (some ⟨ob, 1, none⟩) | _ => True)
          (fun p f w' => match p with | 0 => W0.drew = w' | 1 => WA.drew = w' | 2 => InsTo WA.drew v l2 (f 43) w' | _ => ∃ w1 v', InsTo WA.drew v l2 v' w1 ∧ w1.setCell ⟨ob, 1, none⟩ v' = w') ?_ ?_ ?_
        · exact rfl
        · simp only [AllAt]
          refine ⟨?_, ?_, ?_, ?_, ?_, ?_, ?_, ?_, ?_, ?_, ?_, ?_, trivial⟩
          · refine StepPh.reg rfl (by decide) (fun d hd => by cases hd; decide) ?_
            intro f w' p hG hup hdn hfr hp K hK
            have g0 : f 0 = .pointer (some ⟨ob, 0, none⟩) := hfr 0 (by kernel_rfl)
            clear hfr hp hup hdn
            go_simp
            exact hK _ _ rfl hG
          · refine StepPh.reg rfl (by decide) (fun d hd => by cases hd; decide) ?_
            intro f w' p hG hup hdn hfr hp K hK
            have g0 : f 0 = .pointer (some ⟨ob, 0, none⟩) := hfr 0 (by kernel_rfl)
            clear hfr hp hup hdn
            go_simp
            exact hK _ _ rfl hG
          · refine StepPh.reg rfl (by decide) (fun d hd => by cases hd; decide) ?_
            intro f w' p hG hup hdn hfr hp K hK
            have g36 : f 36 = .pointer (some ⟨ob, 0, none⟩) := hp 1 _ 36 rfl rfl (by kernel_rfl)
            clear hfr hp hup hdn
            go_simp
            exact hK _ _ rfl hG
          · refine StepPh.reg rfl (by decide) (fun d hd => by cases hd; decide) ?_
            intro f w' p hG hup hdn hfr hp K hK
            have g37 : f 37 = .pointer (some ⟨ob, 0, none⟩) := hp 2 _ 37 rfl rfl (by kernel_rfl)
            clear hfr hp hup hdn
            go_simp
            exact hK _ _ rfl hG
          · refine StepPh.reg rfl (by decide) (fun d hd => by cases hd; decide) ?_
            intro f w' p hG hup hdn hfr hp K hK
            have g38 : f 38 = .pointer (some ⟨ob, 1, none⟩) := hp 3 _ 38 rfl rfl (by kernel_rfl)
            have hpp : p = 0 ∨ p = 1 := by have := hdn 1 (by decide) (.inl (by kernel_rfl)); omega
            clear hfr hp hup hdn
            rcases hpp with rfl | rfl
            · have hGe : W0.drew = w' := hG
              subst hGe
              go_simp
              exact hK _ _ rfl hG
            · have hGe : WA.drew = w' := hG
              subst hGe
              go_simp
              exact hK _ _ rfl hG
          · refine StepPh.reg rfl (by decide) (fun d hd => by cases hd; decide) ?_
            intro f w' p hG hup hdn hfr hp K hK
            have g6 : f 6 = .int .i64 (P : Int) := hfr 6 (by kernel_rfl)
            clear hfr hp hup hdn
            go_simp
            exact hK _ _ rfl hG
          · refine StepPh.reg rfl (by decide) (fun d hd => by cases hd; decide) ?_
            intro f w' p hG hup hdn hfr hp K hK
            have g3 : f 3 = .pointer (some ⟨sb, 0, none⟩) := hfr 3 (by kernel_rfl)
            have hpp : p = 0 := by have := hdn 0 (by decide) (.inl (by kernel_rfl)); omega
            clear hfr hp hup hdn
            subst hpp
            have hGe : W0.drew = w' := hG
            subst hGe
            go_simp
            exact hK _ _ rfl hG
          · refine StepPh.wr 0 rfl (by decide) rfl (fun d hd => by cases hd; decide) (fun j hj => by omega) ?_
            intro f w' hG hfr hp K hK
            have g41 : f 41 = .agg #[.string x1, .string x2, .int .i64 x3, .int .i64 x4] := hp 6 _ 41 rfl rfl (by kernel_rfl)
            clear hfr hp
            have hGe : W0.drew = w' := hG
            subst hGe
            go_simp
            exact hK _ _ (fun _ => rfl) (by show WA.drew = _; rw [HWA.out])
          · refine StepPh.wr 1 rfl (by decide) rfl (fun d hd => by cases hd; decide) (fun j hj => by (obtain rfl : j = 0 := (by omega)); kernel_rfl) ?_
            intro f w' hG hfr hp K hK
            have g39 : f 39 = v := hp 4 _ 39 rfl rfl (by kernel_rfl)
            have g40 : f 40 = .int .i64 (P : Int) := hp 5 _ 40 rfl rfl (by kernel_rfl)
            have g42 : f 42 = .slice (some ⟨W0.heap.size, 0, none⟩) 1 1 := hp 7 _ 42 rfl rfl (by kernel_rfl)
            clear hfr hp
            have hGe : WA.drew = w' := hG
            subst hGe
            go_simp
            refine HINS.out.mono ?_
            rintro en w1 ⟨v', rfl, hto⟩
            exact hK _ _ (fun _ => trivial) hto
          · refine StepPh.reg rfl (by decide) (fun d hd => by cases hd; decide) ?_
            intro f w' p hG hup hdn hfr hp K hK
            have g35 : f 35 = .pointer (some ⟨ob, 0, none⟩) := hp 0 _ 35 rfl rfl (by kernel_rfl)
            clear hfr hp hup hdn
            go_simp
            exact hK _ _ rfl hG
          · refine StepPh.reg rfl (by decide) (fun d hd => by cases hd; decide) ?_
            intro f w' p hG hup hdn hfr hp K hK
            have g44 : f 44 = .pointer (some ⟨ob, 0, none⟩) := hp 9 _ 44 rfl rfl (by kernel_rfl)
            clear hfr hp hup hdn
            go_simp
            exact hK _ _ rfl hG
          · refine StepPh.wr 2 rfl (by decide) rfl (fun d hd => by cases hd) (fun j hj => by rcases (by omega : j = 0 ∨ j = 1) with rfl | rfl <;> kernel_rfl) ?_
            intro f w' hG hfr hp K hK
            have g45 : f 45 = .pointer (some ⟨ob, 1, none⟩) := hp 10 _ 45 rfl rfl (by kernel_rfl)
            clear hfr hp
            have hG1 : InsTo WA.drew v l2 (f 43) w' := hG
            obtain ⟨h1c, h1z⟩ := HOB.out _ _ hG1
            obtain ⟨p', c', g43⟩ := hG1.row.len
            obtain ⟨vn, hvn⟩ : ∃ vn, vn = l2.length := ⟨_, rfl⟩
            rw [← hvn] at g43
            rw [g43] at hG1
            clear hvn
            go_simp
            exact hK undef _ (fun h => by cases h) ⟨w', _, hG1, by simp⟩
        · intro f w7 hG hfr hR
          refine hc _ _ ?_
          clear hR
          obtain ⟨wp, v', hP, rfl⟩ := hG
          have hback := fr_back (n := 46) (f := f) (D := [35, 36, 37, 38, 39, 40, 41, 42, 43, 44, 45]) rfl (by kernel_rfl) hfr
          rw [hback]
          simp only [mixL, List.elem_eq_contains, List.contains_cons, List.contains_nil, Nat.reduceBEq, Nat.reduceAdd, Bool.or_false, Bool.or_true, Bool.false_or, Bool.true_or, cond_false, cond_true, Bool.or_self, Nat.zero_add]
          clear hback hfr
          have hF := HFIN.out v' wp hP
          generalize wp.setCell ⟨ob, 1, none⟩ v' = W9 at hF ⊢
          have HF := Lib.hid hF
          clear hF
          go_wp2_with fail
          go_ret
          exact ⟨rfl, v', HF.out⟩
  · rw [if_pos (show er ≠ 0 from he), if_neg he]
    have he2 : (er != 0) = true := by simpa using he
    have HE := Lib.hid he
    clear he
    go_enter Tryz.func12, Tryz.ntmps12
    go_upto_region 1 with fail
    rw [← HW1.out, ← HSB.out]
    go_wp2_with fail
    refine HRF.out.mono ?_
    rintro e w2 ⟨rfl, hb2⟩
    have HB2 := Lib.hid hb2
    clear hb2 d0 d1 d2 d3
    go_wp2_with fail
    go_ret
    exact ⟨rfl, v, SetTo2.same HH.out (HF.out _ HB2.out)⟩
end Go.Proofs.YtemimmnamajooaaGreat
namespace Go.Proofs.YtemimmnamajooaaGreat
open Go.RowKit Go.Deep
noncomputable def getO (l : OL) (g t : ByteArray) (q : Int) : Int := if hasO l ⟨g, t, q, 0⟩ = true then ((l[posO ⟨g, t, q, 0⟩ l]?).map (·.a)).getD 0 else 0
set_option maxRecDepth 100000 in
set_option maxHeartbeats 1000000 in
theorem get_any {w : World} {ob : Nat} {p v : Value} {l : OL} (g t : ByteArray) (q : Int) (h : OHead w ob p v l) (hr : Rising l) (hl : l.length ≤ 1000) :
    Calls Tryz.prog 20 #[.pointer (some ⟨ob, 0, none⟩), .string g, .string t, .int .i64 q] w fun e w' => e = .returned (.int .i64 (getO l g t q)) ∧ Below w.heap.size w w' := by
  have hP := place_any ⟨g, t, q, 0⟩ h hr hl
  unfold getO
  have hplt : hasO l ⟨g, t, q, 0⟩ = true → posO ⟨g, t, q, 0⟩ l < l.length := fun e => by obtain ⟨y, hy, _⟩ := hasO_true e; exact (List.getElem?_eq_some_iff.1 hy).1
  obtain ⟨P, hPe⟩ : ∃ P, P = posO ⟨g, t, q, 0⟩ l := ⟨_, rfl⟩
  obtain ⟨B, hBe⟩ : ∃ B, B = hasO l ⟨g, t, q, 0⟩ := ⟨_, rfl⟩
  rw [← hPe, ← hBe] at hP hplt ⊢
  unfold oenc at hP
  try dsimp only at hP
  have HP := Lib.hid hP
  clear hP hPe hBe hr
  cases B with
  | false =>
    rw [if_neg (by simp)]
    go_enter Tryz.func20, Tryz.ntmps20
    go_wp2_with fail
    refine HP.out.mono ?_
    rintro e w2 ⟨rfl, hb2⟩
    have HB2 := Lib.hid hb2
    clear hb2
    go_wp2_with fail
    go_ret
    exact ⟨rfl, HB2.out⟩
  | true =>
    rw [if_pos rfl]
    have hlt := hplt rfl
    obtain ⟨y, hy⟩ : ∃ y, l[P]? = some y := ⟨_, List.getElem?_eq_getElem hlt⟩
    rw [hy]
    obtain ⟨a, cap, hv⟩ := h.row.len
    have hcl : ∀ W, Below w.heap.size w W → W.cell? ⟨ob, 1, none⟩ = some v ∧ ∃ g, a = some ⟨g, 0, none⟩ ∧ W.cell? ⟨g, P * 4 + 3, none⟩ = some (.int .i64 y.a) := fun W hW => by
      have hh := h.new (Chg.of_below hW)
      have hrow := hh.row
      rw [hv] at hrow
      obtain ⟨g, e, hc⟩ := hrow.at_ hy
      exact ⟨hh.at_.c1, g, e, hc.c3⟩
    obtain ⟨n, hn⟩ : ∃ n, n = l.length := ⟨_, rfl⟩
    rw [← hn] at hlt hl hv
    obtain ⟨ya, hya⟩ : ∃ ya, ya = y.a := ⟨_, rfl⟩
    have hres : ((some y).map (·.a)).getD 0 = ya := by rw [hya]; rfl
    rw [hres]
    rw [← hya] at hcl
    have HCL := Lib.hid hcl
    clear hcl hn hya hres hy hplt h
    subst hv
    go_enter Tryz.func20, Tryz.ntmps20
    go_wp2_with fail
    refine HP.out.mono ?_
    rintro e w2 ⟨rfl, hb2⟩
    obtain ⟨c0, g2, rfl, c3⟩ := HCL.out w2 hb2
    have HB2 := Lib.hid hb2
    clear hb2
    go_wp2_with fail
    go_ret
    exact ⟨rfl, HB2.out⟩
def CloneTo (w : World) (l : OL) (e : Ending) (w' : World) : Prop := ∃ v', e = .returned v' ∧ ORow w' v' l ∧ Below w.heap.size w w' ∧ ∀ q, v'.ownBlock = some q → w.heap.size ≤ q
set_option maxRecDepth 100000 in
theorem app_clone {w : World} {g : Nat} {a : Option Addr} {cap : Nat} {l : OL} (hg : w.heap[g]? = some (.cells #[] 32 (0, 0))) (h : ORow w (.slice a l.length cap) l) (hl : l.length ≤ 1000) (ty : TypeId) :
    ∃ v' w', (Builtin.append_ #[30, 30] ty #[.slice (some ⟨g, 0, none⟩) 0 0, .slice a l.length cap]).run Tryz.prog w = .ok v' w' ∧ ORow w' v' l ∧ w.grownBy w' (some g) ∧ (v'.ownBlock = some g ∨ v'.ownBlock = some w.heap.size) := by
  obtain ⟨i0, hi, hz0, hz1, hz2⟩ := oinfo_parts info_off
  have h0 : w.ownsRow 0 32 4 (.slice (some ⟨g, 0, none⟩) 0 0) 0 [] := ⟨rfl, .inr ⟨g, 0, #[], rfl, Nat.zero_le _, hg, Nat.le_refl _, Nat.zero_le _, rfl, rfl⟩⟩
  rcases h.2 with ⟨hv, hn⟩ | ⟨g2, cap2, cur, hv, hb, hg2, hnc, hcm, hcs, htk⟩
  · injection hv with e1 e2 e3
    subst e1 e3
    have : l = [] := List.length_eq_zero_iff.1 hn
    subst this
    refine ⟨.slice (some ⟨g, 0, none⟩) 0 0, w, ?_, h0, grownBy_refl _ _, .inl rfl⟩
    simp [Builtin.append_, run_underlying Tryz.underlying30, sizeOf, typeInfo, hi, Builtin.lenOf, Builtin.firstCells, storeCells]
  · injection hv with e1 e2 e3
    subst e1
    have hcell : ∀ j u, (ocs l)[j]? = some u → w.cell? ((⟨g2, 0, none⟩ : Addr).add j) = some u := World.ownsRow.cells h (g := g2) rfl
    obtain ⟨v', w', hr, k1, k2, _, k3⟩ := run_append_own_at (P := Tryz.prog) (w := w) 0 30 ty 32 i0 _ 4 48 Tryz.underlying30 hi hz0 hz1 hz2 rfl (by decide) (.slice (some ⟨g, 0, none⟩) 0 0) 0 [] h0 ⟨g2, 0, none⟩ l.length cap (ocs l) (by rw [ocs_len]) hcell (ocs_one l) (by unfold maxLen; omega) (by omega) (Nat.zero_le _)
    refine ⟨v', w', hr, ?_, k2, k3⟩
    unfold ORow
    simpa using k1
set_option maxRecDepth 100000 in
theorem oclone_any (v : Value) (l : OL) (w : World) (h : ORow w v l) (hl : l.length ≤ 1000) :
    Calls Tryz.prog 41 #[v] w (CloneTo w l) := by
  obtain ⟨a, cap, rfl⟩ := h.len
  cases a with
  | none =>
    have hl0 : l = [] ∧ cap = 0 := by
      rcases h.form with ⟨e, e2⟩ | ⟨g, c, e, _⟩
      · injection e with _ _ e3
        exact ⟨e2, e3⟩
      · injection e with e1; cases e1
    obtain ⟨rfl, rfl⟩ := hl0
    clear h
    show Calls Tryz.prog 41 #[.slice none 0 0] w (CloneTo w [])
    have hnil := fun W => Lib.run_eql_slice_nil (P := Tryz.prog) W 30 32 none 0 0 0 0 Tryz.underlying30
    go_enter Tryz.func41, Tryz.ntmps41
    go_wp2_with fail
    go_ret
    exact ⟨_, rfl, ORow.nil _, Below.refl _ _, fun q hq => by cases hq⟩
  | some ad =>
    obtain ⟨w1, hw1⟩ : ∃ w1, w1 = w.alloc (.cells #[] 32) := ⟨_, rfl⟩
    have hg : w1.heap[w.heap.size]? = some (.cells #[] 32 (0, 0)) := by rw [hw1]; exact heap_alloc_new w _
    have hb1 : Below w.heap.size w w1 := hw1 ▸ (Below.refl _ _).alloc (Nat.le_refl _) _
    obtain ⟨v', w', hr, k1, k2, k3⟩ := app_clone (ty := 30) hg (h.new hb1) hl
    have hb2 : Below w.heap.size w w' := (Chg.below (B := w.heap.size) (Chg.of_grown (S := fun q => q = w.heap.size) k2 (fun q hx _ => by injection hx with hx; exact hx.symm)) (fun k _ e => by rw [e]; exact Nat.le_refl _) (by rw [hw1, World.size_alloc]; omega)) |> fun x => hb1.trans x
    have hown : ∀ q, v'.ownBlock = some q → w.heap.size ≤ q := fun q hq => by
      rcases k3 with e | e
      · rw [e] at hq; injection hq with hq; omega
      · rw [e, hw1, World.size_alloc] at hq; injection hq with hq; omega
    have hnil := fun W => Lib.run_eql_slice_nil (P := Tryz.prog) W 30 32 (some ad) l.length cap 0 0 Tryz.underlying30
    have HR := Lib.hid hr
    have HK := Lib.hid k1
    have HB := Lib.hid hb2
    have HO := Lib.hid hown
    rw [hw1] at HR
    obtain ⟨n, hn⟩ : ∃ n, n = l.length := ⟨_, rfl⟩
    rw [← hn] at HR hnil ⊢
    clear h hl hw1 hg hb1 hr k1 k2 k3 hb2 hn hown
    go_enter Tryz.func41, Tryz.ntmps41
    go_wp2_with (at_builtin; refine Lib.wpList_append_run _ rfl _ _ _ _ rfl _ _ rfl rfl _ _ HR.out ?_)
    go_wp2_with fail
    go_ret
    exact ⟨_, rfl, HK.out, HB.out, HO.out⟩
theorem oall_any {w : World} {ob : Nat} {p v : Value} {l : OL} (h : OHead w ob p v l) (hl : l.length ≤ 1000) :
    Calls Tryz.prog 18 #[.pointer (some ⟨ob, 0, none⟩)] w (CloneTo w l) := by
  have HC := Lib.hid (oclone_any v l w h.row hl)
  have hc := h.at_.c1
  clear h
  go_enter Tryz.func18, Tryz.ntmps18
  go_wp2_with fail
  refine HC.out.mono ?_
  rintro e w2 ⟨v', rfl, h2⟩
  have H2 := Lib.hid h2
  clear h2
  go_wp2_with fail
  go_ret
  exact ⟨_, rfl, H2.out⟩
def OArg (w : World) (v : Value) (l : OL) : Prop := ∃ a cap, v = .slice a l.length cap ∧ l.length ≤ cap ∧ (l = [] ∨ ∃ b o, a = some ⟨b, o, none⟩ ∧ ∀ i x, l[i]? = some x → OCell w b (o + i * 4) x)
theorem OCell.keep {w w' : World} {b o : Nat} {x : OfM} (h : OCell w b o x) (hb : Below w.heap.size w w') : OCell w' b o x := ⟨ukeep hb h.c0, ukeep hb h.c1, ukeep hb h.c2, ukeep hb h.c3⟩
theorem OCell.chg {S : Nat → Prop} {w w' : World} {b o : Nat} {x : OfM} (h : OCell w b o x) (hc : Chg S w w') (hn : ¬ S b) : OCell w' b o x := ⟨hc.cell h.c0 hn, hc.cell h.c1 hn, hc.cell h.c2 hn, hc.cell h.c3 hn⟩
theorem OArg.keep {w w' : World} {v : Value} {l : OL} (h : OArg w v l) (hb : Below w.heap.size w w') : OArg w' v l := by
  obtain ⟨a, cap, e, hc, h⟩ := h
  refine ⟨a, cap, e, hc, h.imp (fun h => h) ?_⟩
  rintro ⟨b, o, e2, h⟩
  exact ⟨b, o, e2, fun i x hx => (h i x hx).keep hb⟩
theorem ORow.arg {w : World} {v : Value} {l : OL} (h : ORow w v l) : OArg w v l := by
  rcases h.form with ⟨e, e2⟩ | ⟨g, cap, e, _, hc, _, hx⟩
  · subst e2; exact ⟨none, 0, e, Nat.le_refl _, .inl rfl⟩
  · exact ⟨_, cap, e, hc, .inr ⟨g, 0, rfl, fun i x hi => by rw [Nat.zero_add]; exact hx i x hi⟩⟩
theorem OArg.len {w : World} {v : Value} {l : OL} (h : OArg w v l) : ∃ a cap, v = .slice a l.length cap ∧ l.length ≤ cap := by
  obtain ⟨a, cap, e, hc, _⟩ := h
  exact ⟨a, cap, e, hc⟩
theorem OArg.at_ {w : World} {a : Option Addr} {n cap : Nat} {l : OL} (h : OArg w (.slice a n cap) l) {i : Nat} {x : OfM} (hx : l[i]? = some x) : ∃ b o, a = some ⟨b, o, none⟩ ∧ OCell w b (o + i * 4) x := by
  obtain ⟨a2, c2, e, _, h⟩ := h
  injection e with e1
  rcases h with h | ⟨b, o, e2, h⟩
  · rw [h] at hx; cases hx
  · exact ⟨b, o, e1.trans e2, h i x hx⟩
theorem OArg.take {w : World} {a : Option Addr} {n cap : Nat} {l : OL} (h : OArg w (.slice a n cap) l) (k : Nat) (hk : k ≤ l.length) : OArg w (.slice a k cap) (l.take k) := by
  obtain ⟨a2, c2, e, hc, h⟩ := h
  injection e with e1 e2 e3
  subst e1 e3
  have hl : (l.take k).length = k := by rw [List.length_take]; omega
  refine ⟨a, cap, by rw [hl], by rw [hl]; omega, ?_⟩
  rcases h with h | ⟨b, o, e2, h⟩
  · left; rw [h]; simp
  · exact .inr ⟨b, o, e2, fun i x hx => h i x (by rw [List.getElem?_take] at hx; split at hx; exact hx; cases hx)⟩
def AllOk (l : OL) : Prop := ∀ y ∈ l, offE y = 0
end Go.Proofs.YtemimmnamajooaaGreat
namespace Go.Proofs.YtemimmnamajooaaGreat
open Go.RowKit Go.Deep
open Classical
noncomputable def insR (x : OfM) : OL → OL
  | [] => [x]
  | y :: l => if oLess y x then y :: insR x l else if sameK y x then x :: l else x :: y :: l
theorem hasO_nil (x : OfM) : hasO [] x = false := rfl
theorem hasO_less {y x : OfM} {l : OL} (h : oLess y x) : hasO (y :: l) x = hasO l x := by
  have e : posO x (y :: l) = posO x l + 1 := by show (if oLess y x then _ else _) = _; rw [if_pos h]
  unfold hasO
  rw [e, List.getElem?_cons_succ]
theorem hasO_stop {y x : OfM} {l : OL} (h : ¬ oLess y x) : hasO (y :: l) x = decide (oOrd y x = 0) := by
  have e : posO x (y :: l) = 0 := by show (if oLess y x then _ else _) = _; rw [if_neg h]
  unfold hasO
  rw [e]
  rfl
theorem putO_eq (x : OfM) : ∀ l : OL, putO l x = insR x l
  | [] => by unfold putO; rw [hasO_nil, if_neg (by simp)]; rfl
  | y :: l => by
    have ih := putO_eq x l
    unfold putO at ih ⊢
    by_cases h : oLess y x
    · have e : posO x (y :: l) = posO x l + 1 := by show (if oLess y x then _ else _) = _; rw [if_pos h]
      have e2 : insR x (y :: l) = y :: insR x l := by show (if oLess y x then _ else _) = _; rw [if_pos h]
      rw [hasO_less h, e, e2, ← ih]
      split
      · rfl
      · unfold insL; simp
    · have e : posO x (y :: l) = 0 := by show (if oLess y x then _ else _) = _; rw [if_neg h]
      have e2 : insR x (y :: l) = if sameK y x then x :: l else x :: y :: l := by show (if oLess y x then _ else _) = _; rw [if_neg h]
      rw [hasO_stop h, e, e2]
      by_cases hs : sameK y x
      · rw [if_pos hs, if_pos (by simp [oOrd_zero.2 hs])]; rfl
      · rw [if_neg hs, if_neg (by simp; exact fun e => hs (oOrd_zero.1 e))]; rfl
theorem Rising.tail {y : OfM} {l : OL} (h : Rising (y :: l)) : Rising l := (List.pairwise_cons.1 h).2
theorem Rising.head {y : OfM} {l : OL} (h : Rising (y :: l)) : ∀ z ∈ l, oLess y z := (List.pairwise_cons.1 h).1
theorem mem_insR {x : OfM} : ∀ {l : OL}, Rising l → ∀ z, z ∈ insR x l ↔ z = x ∨ (z ∈ l ∧ ¬ sameK z x)
  | [], _, z => by show z ∈ [x] ↔ _; simp
  | y :: l, h, z => by
    by_cases h1 : oLess y x
    · have e2 : insR x (y :: l) = y :: insR x l := by show (if oLess y x then _ else _) = _; rw [if_pos h1]
      rw [e2, List.mem_cons, mem_insR h.tail z, List.mem_cons]
      constructor
      · rintro (e | e | ⟨a, b⟩)
        · exact .inr ⟨.inl e, e ▸ oLess_ne h1⟩
        · exact .inl e
        · exact .inr ⟨.inr a, b⟩
      · rintro (e | ⟨e | e, b⟩)
        · exact .inr (.inl e)
        · exact .inl e
        · exact .inr (.inr ⟨e, b⟩)
    · by_cases h2 : sameK y x
      · have e2 : insR x (y :: l) = x :: l := by show (if oLess y x then _ else _) = _; rw [if_neg h1, if_pos h2]
        rw [e2, List.mem_cons, List.mem_cons]
        constructor
        · rintro (e | e)
          · exact .inl e
          · exact .inr ⟨.inr e, fun hs => oLess_ne ((oLess_same h2).1 (h.head z e)) hs.symm⟩
        · rintro (e | ⟨e | e, b⟩)
          · exact .inl e
          · exact absurd (e ▸ h2) b
          · exact .inr e
      · have e2 : insR x (y :: l) = x :: y :: l := by show (if oLess y x then _ else _) = _; rw [if_neg h1, if_neg h2]
        have h3 : oLess x y := by
          rcases oLess_tri y x with e | e | e
          · exact absurd e h1
          · exact absurd e h2
          · exact e
        rw [e2, List.mem_cons]
        constructor
        · rintro (e | e)
          · exact .inl e
          · refine .inr ⟨e, fun hs => ?_⟩
            rcases List.mem_cons.1 e with e | e
            · exact h2 (e ▸ hs)
            · exact oLess_ne (oLess_trans h3 (h.head z e)) hs.symm
        · rintro (e | ⟨e, _⟩)
          · exact .inl e
          · exact .inr e
theorem insR_rising {x : OfM} : ∀ {l : OL}, Rising l → Rising (insR x l)
  | [], _ => by show Rising [x]; exact List.pairwise_singleton _ _
  | y :: l, h => by
    by_cases h1 : oLess y x
    · have e2 : insR x (y :: l) = y :: insR x l := by show (if oLess y x then _ else _) = _; rw [if_pos h1]
      rw [e2]
      refine List.pairwise_cons.2 ⟨fun z hz => ?_, insR_rising h.tail⟩
      rcases (mem_insR h.tail z).1 hz with e | ⟨e, _⟩
      · rw [e]; exact h1
      · exact h.head z e
    · by_cases h2 : sameK y x
      · have e2 : insR x (y :: l) = x :: l := by show (if oLess y x then _ else _) = _; rw [if_neg h1, if_pos h2]
        rw [e2]
        exact List.pairwise_cons.2 ⟨fun z hz => (oLess_same h2).1 (h.head z hz), h.tail⟩
      · have e2 : insR x (y :: l) = x :: y :: l := by show (if oLess y x then _ else _) = _; rw [if_neg h1, if_neg h2]
        have h3 : oLess x y := by
          rcases oLess_tri y x with e | e | e
          · exact absurd e h1
          · exact absurd e h2
          · exact e
        rw [e2]
        refine List.pairwise_cons.2 ⟨fun z hz => ?_, h⟩
        rcases List.mem_cons.1 hz with e | e
        · rw [e]; exact h3
        · exact oLess_trans h3 (h.head z e)
theorem putO_len {l : OL} (x : OfM) : (putO l x).length = if hasO l x = true then l.length else l.length + 1 := by
  unfold putO
  split
  · rw [List.length_set]
  · exact insL_len l _ x (posO_le x l)
theorem putO_rising {l : OL} (h : Rising l) (x : OfM) : Rising (putO l x) := by rw [putO_eq]; exact insR_rising h
theorem mem_putO {l : OL} (h : Rising l) (x z : OfM) : z ∈ putO l x ↔ z = x ∨ (z ∈ l ∧ ¬ sameK z x) := by rw [putO_eq]; exact mem_insR h z
theorem hasO_iff {x : OfM} : ∀ {l : OL}, Rising l → (hasO l x = true ↔ ∃ y ∈ l, sameK y x)
  | [], _ => by rw [hasO_nil]; simp
  | y :: l, h => by
    by_cases h1 : oLess y x
    · rw [hasO_less h1, hasO_iff h.tail]
      constructor
      · rintro ⟨z, a, b⟩; exact ⟨z, List.mem_cons_of_mem _ a, b⟩
      · rintro ⟨z, a, b⟩
        rcases List.mem_cons.1 a with e | e
        · exact absurd (e ▸ b) (oLess_ne h1)
        · exact ⟨z, e, b⟩
    · rw [hasO_stop h1, decide_eq_true_iff, oOrd_zero]
      constructor
      · intro e; exact ⟨y, List.mem_cons_self .., e⟩
      · rintro ⟨z, a, b⟩
        rcases List.mem_cons.1 a with e | e
        · exact e ▸ b
        · exact absurd ((oLess_same' b).1 (h.head z e)) h1
theorem rising_key {l : OL} (h : Rising l) {a b : OfM} (ha : a ∈ l) (hb : b ∈ l) (hs : sameK a b) : a = b := by
  obtain ⟨i, hi, ea⟩ := List.getElem_of_mem ha
  obtain ⟨j, hj, eb⟩ := List.getElem_of_mem hb
  rcases Nat.lt_trichotomy i j with e | e | e
  · exact absurd hs (oLess_ne (rising_at h e (by rw [← ea]; exact List.getElem?_eq_getElem hi) (by rw [← eb]; exact List.getElem?_eq_getElem hj)))
  · subst e; rw [← ea, ← eb]
  · exact absurd hs.symm (oLess_ne (rising_at h e (by rw [← eb]; exact List.getElem?_eq_getElem hj) (by rw [← ea]; exact List.getElem?_eq_getElem hi)))
theorem getO_mem {l : OL} (h : Rising l) {y : OfM} (hy : y ∈ l) {g t : ByteArray} {q : Int} (hs : sameK y ⟨g, t, q, 0⟩) : getO l g t q = y.a := by
  have hh := (hasO_iff (x := ⟨g, t, q, 0⟩) h).2 ⟨y, hy, hs⟩
  obtain ⟨z, hz, hzs⟩ := hasO_true hh
  have : z = y := rising_key h (List.mem_of_getElem? hz) hy (hzs.trans hs.symm)
  unfold getO
  rw [if_pos hh, hz, this]
  rfl
theorem getO_none {l : OL} (h : Rising l) {g t : ByteArray} {q : Int} (hn : ∀ y ∈ l, ¬ sameK y ⟨g, t, q, 0⟩) : getO l g t q = 0 := by
  unfold getO
  rw [if_neg]
  intro hh
  obtain ⟨y, a, b⟩ := (hasO_iff h).1 hh
  exact hn y a b
structure OOk (l : OL) : Prop where
  ris : Rising l
  len : l.length ≤ 64
  ok : AllOk l
theorem OOk.nil : OOk [] := ⟨List.Pairwise.nil, Nat.zero_le _, fun y hy => by cases hy⟩
theorem OOk.set {l : OL} (h : OOk l) (x : OfM) : OOk (osL l x) := by
  unfold osL
  split
  · rename_i hz
    refine ⟨putO_rising h.ris x, ?_, fun y hy => ?_⟩
    · rw [putO_len]
      have := h.len
      unfold osE at hz
      split at hz
      · rename_i he; exact absurd hz he
      · split at hz
        · rename_i hh; rw [if_pos hh]; exact this
        · rename_i hh
          rw [if_neg hh]
          split at hz
          · cases hz
          · omega
    · rcases (mem_putO h.ris x y).1 hy with e | ⟨e, _⟩
      · rw [e]
        unfold osE at hz
        split at hz
        · rename_i he; exact absurd hz he
        · rename_i he; simpa using he
      · exact h.ok y e
  · exact h
theorem plain16 {s : ByteArray} (h : plainB s = true) : s.size ≤ 16 := by
  unfold plainB at h; exact (okL_iff.1 h).2.1
theorem group8 {s : ByteArray} (h : groupB s = true) : s.size ≤ 8 := by
  unfold groupB at h; exact (okL_iff.1 h).2.1
end Go.Proofs.YtemimmnamajooaaGreat
