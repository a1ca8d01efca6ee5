/- A part. -/
import Derived.Deep.AppendLies
import Derived.Test.YtemimmnamajooaaGreatOpl25
import Derived.Test.YtemimmnamajooaaGreatOpl26
set_option linter.unusedVariables false
set_option linter.unusedSimpArgs false
namespace Go.Proofs.YtemimmnamajooaaGreat
open Go.RowKit Go.Deep
abbrev OL := List OfM
def ocs (l : OL) : List Value := l.flatMap oenc
def ORow (w : World) (v : Value) (l : OL) : Prop := w.ownsRow 0 32 4 v l.length (ocs l)
theorem ocs_len (l : OL) : (ocs l).length = l.length * 4 := by
  unfold ocs
  induction l with
  | nil => rfl
  | cons x l ih => rw [List.flatMap_cons, List.length_append, ih, List.length_cons]; show 4 + _ = _; omega
theorem ocs_get (l : OL) (i j : Nat) (hj : j < 4) : (ocs l)[i * 4 + j]? = (l[i]?).bind fun x => (oenc x)[j]? := flat_get oenc_len l i j hj
theorem oenc_one (x : OfM) : ∀ u ∈ oenc x, u.oneCell' = true := by
  intro u hu
  simp [oenc] at hu
  rcases hu with rfl | rfl | rfl | rfl <;> rfl
theorem ocs_one (l : OL) : ∀ u ∈ ocs l, u.oneCell' = true := by
  intro u hu
  obtain ⟨x, _, hx⟩ := List.mem_flatMap.1 hu
  exact oenc_one x u hx
theorem ocs_append (a b : OL) : ocs (a ++ b) = ocs a ++ ocs b := by unfold ocs; rw [List.flatMap_append]
theorem ocs_one1 (x : OfM) : ocs [x] = oenc x := by unfold ocs; simp
theorem ocs_take (l : OL) (i : Nat) : (ocs l).take (i * 4) = ocs (l.take i) := by
  induction l generalizing i with
  | nil => simp [ocs]
  | cons x l ih =>
    cases i with
    | zero => simp [ocs]
    | succ i =>
      have e : ocs (x :: l) = oenc x ++ ocs l := by unfold ocs; rw [List.flatMap_cons]
      have e2 : ocs (x :: l.take i) = oenc x ++ ocs (l.take i) := by unfold ocs; rw [List.flatMap_cons]
      rw [List.take_succ_cons, e, e2, ← ih i, List.take_append, oenc_len, List.take_of_length_le (by rw [oenc_len]; omega)]
      congr 2
      omega
theorem ocs_drop (l : OL) (i : Nat) : (ocs l).drop (i * 4) = ocs (l.drop i) := by
  induction l generalizing i with
  | nil => simp [ocs]
  | cons x l ih =>
    cases i with
    | zero => simp [ocs]
    | succ i =>
      have e : ocs (x :: l) = oenc x ++ ocs l := by unfold ocs; rw [List.flatMap_cons]
      rw [List.drop_succ_cons, e, ← ih i, List.drop_append, oenc_len, List.drop_of_length_le (by rw [oenc_len]; omega), List.nil_append]
      congr 1
      omega
theorem ORow.nil (w : World) : ORow w (.slice none 0 0) [] := World.ownsRow_nil _ _ _ _
theorem vadd_none (b o i : Nat) : (⟨b, o, none⟩ : Addr).add i = ⟨b, o + i, none⟩ := by unfold Addr.add; split <;> simp_all
structure OCell (w : World) (g o : Nat) (x : OfM) : Prop where
  c0 : w.cell? ⟨g, o, none⟩ = some (.string x.g)
  c1 : w.cell? ⟨g, o + 1, none⟩ = some (.string x.t)
  c2 : w.cell? ⟨g, o + 2, none⟩ = some (.int .i64 x.q)
  c3 : w.cell? ⟨g, o + 3, none⟩ = some (.int .i64 x.a)
theorem OCell.all {w : World} {g o : Nat} {x : OfM} (h : OCell w g o x) : ∀ j u, (oenc x)[j]? = some u → w.cell? ⟨g, o + j, none⟩ = some u := fun j u hu => by
  match j with
  | 0 => simp [oenc] at hu; subst hu; exact h.c0
  | 1 => simp [oenc] at hu; subst hu; exact h.c1
  | 2 => simp [oenc] at hu; subst hu; exact h.c2
  | 3 => simp [oenc] at hu; subst hu; exact h.c3
  | j + 4 => simp [oenc] at hu
theorem ORow.form {w : World} {v : Value} {l : OL} (h : ORow w v l) : (v = .slice none 0 0 ∧ l = []) ∨
    ∃ g cap, v = .slice (some ⟨g, 0, none⟩) l.length cap ∧ v.ownBlock = some g ∧ l.length ≤ cap ∧ g < w.heap.size ∧ ∀ i x, l[i]? = some x → OCell w g (i * 4) x := by
  have hc := fun (g : Nat) (hg : v.ownBlock = some g) => World.ownsRow.cells h (g := g) hg
  rcases h.2 with ⟨e, h0⟩ | ⟨g, cap, cur, e, _, hg, h1, h2, h3, h4⟩
  · exact .inl ⟨e, List.length_eq_zero_iff.1 h0⟩
  · have ho : v.ownBlock = some g := by rw [e]; rfl
    refine .inr ⟨g, cap, e, ho, h1, (Array.getElem?_eq_some_iff.1 hg).1, fun i x hx => ?_⟩
    have k : ∀ j u, j < 4 → (oenc x)[j]? = some u → w.cell? ⟨g, i * 4 + j, none⟩ = some u := fun j u hj hu => by
      have q : (ocs l)[i * 4 + j]? = some u := by rw [ocs_get l i j hj, hx]; exact hu
      have r := hc g ho _ _ q
      rwa [vadd_none, Nat.zero_add] at r
    exact ⟨k 0 _ (by decide) rfl, k 1 _ (by decide) rfl, k 2 _ (by decide) rfl, k 3 _ (by decide) rfl⟩
theorem ORow.len {w : World} {v : Value} {l : OL} (h : ORow w v l) : ∃ a cap, v = .slice a l.length cap := by
  rcases h.form with ⟨rfl, rfl⟩ | ⟨g, cap, rfl, _⟩
  · exact ⟨none, 0, rfl⟩
  · exact ⟨_, cap, rfl⟩
theorem ORow.at_ {w : World} {a : Option Addr} {n cap : Nat} {l : OL} (h : ORow w (.slice a n cap) l) {i : Nat} {x : OfM} (hx : l[i]? = some x) : ∃ g, a = some ⟨g, 0, none⟩ ∧ OCell w g (i * 4) x := by
  rcases h.form with ⟨_, e⟩ | ⟨g, c, e, _, _, _, hc⟩
  · rw [e] at hx; cases hx
  · injection e with e1
    exact ⟨g, e1, hc i x hx⟩
theorem ORow.chg {S : Nat → Prop} {w w' : World} {v : Value} {l : OL} (h : ORow w v l) (hc : Chg S w w') (hn : ∀ g, v.ownBlock = some g → ¬ S g) : ORow w' v l := hc.row h hn
theorem ORow.lt {w : World} {v : Value} {l : OL} (h : ORow w v l) : ∀ g, v.ownBlock = some g → g < w.heap.size := by
  intro g hg
  rcases h.form with ⟨rfl, rfl⟩ | ⟨g', cap, rfl, ho, _, hlt, _⟩
  · cases hg
  · rw [ho] at hg; injection hg with hg; rw [← hg]; exact hlt
theorem ORow.new {w w' : World} {v : Value} {l : OL} (h : ORow w v l) (hb : Below w.heap.size w w') : ORow w' v l := h.chg (Chg.of_below (S := fun _ => False) hb) (fun _ _ x => x)
theorem ORow.apart {w : World} {v : Value} {l : OL} (h : ORow w v l) {b : Nat} {c : Array Value} {t : TypeId} {fr : Nat × Nat} (hb : w.heap[b]? = some (.cells c t fr)) (ht : t ≠ 32) : ∀ g, v.ownBlock = some g → g ≠ b := by
  intro g hg he
  subst he
  rcases h.2 with ⟨e, _⟩ | ⟨g2, cap, cur, e, _, hg2, _⟩
  · rw [e] at hg; cases hg
  · rw [e] at hg
    injection hg with hg
    subst hg
    rw [hb] at hg2
    injection hg2 with hg2
    injection hg2 with _ h2
    exact ht h2
theorem info_off : (Tryz.prog.info? 32).map (fun i => (i.zero, i.size, i.bytes)) = some (some (.agg #[.string ⟨#[]⟩, .string ⟨#[]⟩, .int .i64 0, .int .i64 0]), 4, 48) := by kernel_rfl
theorem oinfo_parts {t : TypeId} {z : Value} {s b : Nat} (h : (Tryz.prog.info? t).map (fun i => (i.zero, i.size, i.bytes)) = some (some z, s, b)) : ∃ i, Tryz.prog.info? t = some i ∧ i.zero = some z ∧ i.size = s ∧ i.bytes = b := by
  cases hi : Tryz.prog.info? t with
  | none => rw [hi] at h; cases h
  | some i =>
    rw [hi] at h
    simp only [Option.map_some, Option.some.injEq, Prod.mk.injEq] at h
    exact ⟨i, rfl, h.1, h.2.1, h.2.2⟩
def OAt (w : World) (ob : Nat) (p v : Value) : Prop := w.heap[ob]? = some (.cells #[p, v] 63 (0, 0))
theorem OAt.c0 {w : World} {ob : Nat} {p v : Value} (h : OAt w ob p v) : w.cell? ⟨ob, 0, none⟩ = some p := by unfold OAt at h; simp [World.cell?, h]
theorem OAt.c1 {w : World} {ob : Nat} {p v : Value} (h : OAt w ob p v) : w.cell? ⟨ob, 1, none⟩ = some v := by unfold OAt at h; simp [World.cell?, h]
theorem OAt.fz {w : World} {ob : Nat} {p v : Value} (h : OAt w ob p v) (i : Nat) : w.frozen? ⟨ob, i, none⟩ = false := by unfold OAt at h; simp [World.frozen?, h]
theorem OAt.chg {S : Nat → Prop} {w w' : World} {ob : Nat} {p v : Value} (h : OAt w ob p v) (hc : Chg S w w') (hn : ¬ S ob) : OAt w' ob p v := hc.heap h hn
theorem OAt.lt {w : World} {ob : Nat} {p v : Value} (h : OAt w ob p v) : ob < w.heap.size := (Array.getElem?_eq_some_iff.1 h).1
structure OHead (w : World) (ob : Nat) (p v : Value) (l : OL) : Prop where
  at_ : OAt w ob p v
  row : ORow w v l
theorem OHead.new {w w' : World} {ob : Nat} {p v : Value} {l : OL} (h : OHead w ob p v l) (hc : Chg (fun _ => False) w w') : OHead w' ob p v l := ⟨h.at_.chg hc (fun e => e), h.row.chg hc (fun _ _ e => e)⟩
def Rising (l : OL) : Prop := l.Pairwise oLess
open Classical in
noncomputable def posO (x : OfM) : OL → Nat
  | [] => 0
  | y :: l => if oLess y x then posO x l + 1 else 0
noncomputable def hasO (l : OL) (x : OfM) : Bool := match l[posO x l]? with
  | some y => decide (oOrd y x = 0)
  | none => false
theorem posO_le (x : OfM) : ∀ l : OL, posO x l ≤ l.length
  | [] => Nat.le_refl _
  | y :: l => by
    unfold posO
    split
    · have := posO_le x l; simp; omega
    · exact Nat.zero_le _
theorem posO_of (x : OfM) : ∀ (l : OL) (i : Nat), i ≤ l.length → (∀ t y, t < i → l[t]? = some y → oLess y x) → (∀ y, l[i]? = some y → ¬ oLess y x) → posO x l = i
  | [], i, hi, _, _ => by simp at hi; rw [hi]; rfl
  | z :: l, 0, hi, _, h2 => by
    unfold posO
    rw [if_neg (h2 z rfl)]
  | z :: l, i + 1, hi, h1, h2 => by
    unfold posO
    rw [if_pos (h1 0 z (by omega) rfl), posO_of x l i (by simpa using hi) (fun t y ht hy => h1 (t + 1) y (by omega) (by simpa using hy)) (fun y hy => h2 y (by simpa using hy))]
theorem rising_at {l : OL} (h : Rising l) {i j : Nat} {a b : OfM} (hij : i < j) (ha : l[i]? = some a) (hb : l[j]? = some b) : oLess a b := by
  obtain ⟨hi, ea⟩ := List.getElem?_eq_some_iff.1 ha
  obtain ⟨hj, eb⟩ := List.getElem?_eq_some_iff.1 hb
  rw [← ea, ← eb]
  exact List.pairwise_iff_getElem.1 h i j hi hj hij
set_option maxHeartbeats 4000000 in
set_option maxRecDepth 100000 in
theorem bsf_any (v : Value) (l : OL) (x : OfM) (w : World) (h : ORow w v l) (hr : Rising l) (hl : l.length ≤ 1000) :
    Calls Tryz.prog 62 #[v, .agg (oenc x).toArray, .func (.func 63) #[] #[]] w fun e w' => e = .returned (.tuple #[.int .i64 (posO x l : Nat), .bool (hasO l x)]) ∧ Below w.heap.size w w' := by
  obtain ⟨w1, hw1⟩ : ∃ w1, w1 = w.alloc (.cells #[.string x.g, .string x.t, .int .i64 x.q, .int .i64 x.a] 32) := ⟨_, rfl⟩
  obtain ⟨tb, htb⟩ : ∃ tb, tb = w.heap.size := ⟨_, rfl⟩
  have hb1 : Below w.heap.size w w1 := by rw [hw1]; exact (Below.refl _ _).alloc (Nat.le_refl _) _
  have d0 : w1.cell? ⟨tb, 0, none⟩ = some (.string x.g) := by rw [hw1, htb]; simp [go_sem]
  have d1 : w1.cell? ⟨tb, 1, none⟩ = some (.string x.t) := by rw [hw1, htb]; simp [go_sem]
  have d2 : w1.cell? ⟨tb, 2, none⟩ = some (.int .i64 x.q) := by rw [hw1, htb]; simp [go_sem]
  have d3 : w1.cell? ⟨tb, 3, none⟩ = some (.int .i64 x.a) := by rw [hw1, htb]; simp [go_sem]
  have hT : ∀ W, Below w1.heap.size w1 W → W.cell? ⟨tb, 0, none⟩ = some (.string x.g) ∧ W.cell? ⟨tb, 1, none⟩ = some (.string x.t) ∧ W.cell? ⟨tb, 2, none⟩ = some (.int .i64 x.q) ∧ W.cell? ⟨tb, 3, none⟩ = some (.int .i64 x.a) := fun W hW => ⟨ukeep hW d0, ukeep hW d1, ukeep hW d2, ukeep hW d3⟩
  have hR : ∀ W, Below w1.heap.size w1 W → ORow W v l := fun W hW => (h.new hb1).new hW
  have hF : ∀ W, Below w1.heap.size w1 W → Below w.heap.size w W := fun W hW => hb1.trans (hW.mono hb1.size)
  obtain ⟨a, cap, rfl⟩ := h.len
  obtain ⟨n, hn⟩ : ∃ n, n = l.length := ⟨_, rfl⟩
  obtain ⟨P, hP⟩ : ∃ P, P = posO x l := ⟨_, rfl⟩
  obtain ⟨B, hB⟩ : ∃ B, B = hasO l x := ⟨_, rfl⟩
  have hB2 : B = match l[P]? with
    | some y => decide (oOrd y x = 0)
    | none => false := by rw [hB, hP]; rfl
  have hfin : ∀ i, i ≤ n → (∀ t y, t < i → l[t]? = some y → oLess y x) → (∀ t y, i ≤ t → l[t]? = some y → ¬ oLess y x) → P = i := fun i hi h1 h2 => by
    rw [hP]
    exact posO_of x l i (by omega) h1 (fun y hy => h2 i y (Nat.le_refl _) hy)
  rw [← hn] at hR hl ⊢
  rw [← hP, ← hB]
  obtain ⟨x1, x2, x3, x4⟩ := x
  have HW1 := Lib.hid hw1
  have HTB := Lib.hid htb
  have HT := Lib.hid hT
  have HR := Lib.hid hR
  have HF := Lib.hid hF
  have HN := Lib.hid hn
  have HB2 := Lib.hid hB2
  have HFIN := Lib.hid hfin
  have HRI := Lib.hid hr
  clear hw1 htb hb1 d0 d1 d2 d3 hT hR hF hn hP hB hB2 hfin h hr
  unfold oenc
  dsimp only
  go_enter Tryz.func62, Tryz.ntmps62
  go_upto_region 1 with fail
  have e1 := HW1.out
  have e2 := HTB.out
  try dsimp only at e1
  rw [← e1, ← e2]
  clear e1 e2
  go_wp2_with fail
  go_loopw [9, 10] (fun s9 s10 wr => ∃ lo hi : Nat, s9 = .int .i64 (lo : Int) ∧ s10 = .int .i64 (hi : Int) ∧ lo ≤ hi ∧ hi ≤ n ∧ Hid (Below w1.heap.size w1 wr) ∧ Hid (∀ t y, t < lo → l[t]? = some y → oLess y ⟨x1, x2, x3, x4⟩) ∧ Hid (∀ t y, hi ≤ t → l[t]? = some y → ¬ oLess y ⟨x1, x2, x3, x4⟩)) (fun s9 s10 _ => (intOf s10).toNat - (intOf s9).toNat)
  case atStart => exact ⟨0, n, rfl, rfl, Nat.zero_le _, Nat.le_refl _, Lib.hid (Below.refl _ _), Lib.hid (fun t y ht => absurd ht (Nat.not_lt_zero _)), Lib.hid (fun t y ht hy => by have := (List.getElem?_eq_some_iff.1 hy).1; have := HN.out; omega)⟩
  case round =>
    obtain ⟨lo, hi, rfl, rfl, hlh, hin, HB, HLO, HHI⟩ := hrel
    have hrow := HR.out wr HB.out
    obtain ⟨t0, t1, t2, t3⟩ := HT.out wr HB.out
    try dsimp only at t0 t1 t2 t3
    by_cases hlt : lo < hi
    · obtain ⟨h, hh⟩ : ∃ h, h = (lo + hi) / 2 := ⟨_, rfl⟩
      have hmid0 : ((lo : Int) + (hi : Int)) / 2 = (h : Int) := by omega
      have h1 : lo ≤ h := by omega
      have h2 : h < hi := by omega
      have h3 : h < n := by omega
      clear hh
      obtain ⟨y, hy⟩ : ∃ y, l[h]? = some y := ⟨_, List.getElem?_eq_getElem (by rw [← HN.out]; omega)⟩
      obtain ⟨g, rfl, hc⟩ := hrow.at_ hy
      have hmid : ∀ t z, t < h → l[t]? = some z → oLess z y := fun t z ht hz => rising_at HRI.out ht hz hy
      have hmid2 : ∀ t z, h < t → l[t]? = some z → oLess y z := fun t z ht hz => rising_at HRI.out ht hy hz
      have hord := fun W => order_any y ⟨x1, x2, x3, x4⟩ W
      obtain ⟨c0, c1, c2, c3⟩ := hc
      obtain ⟨k, hk⟩ : ∃ k, k = oOrd y ⟨x1, x2, x3, x4⟩ := ⟨_, rfl⟩
      have hkl : k < 0 ↔ oLess y ⟨x1, x2, x3, x4⟩ := by rw [hk]; exact oOrd_neg
      rw [← hk] at hord
      obtain ⟨y1, y2, y3, y4⟩ := y
      try dsimp only at c0 c1 c2 c3
      unfold oenc at hord
      try dsimp only at hord
      have HO := Lib.hid hord
      have HK := Lib.hid hkl
      have HY := Lib.hid hy
      have HM := Lib.hid hmid
      have HM2 := Lib.hid hmid2
      clear hord hkl hy hmid hmid2 hk hrow
      by_cases hneg : k < 0
      · go_upto_region 5 with fail
        go_still_tail 6, (by kernel_rfl)
        change wpList _ _ _ _ _ wr.drew
        have hdd : Below w1.heap.size w1 wr.drew := HB.out.drew
        have HOD := Lib.hid (HO.out wr.drew)
        generalize wr.drew = W2 at hdd HOD ⊢
        clear t0 t1 t2 t3 c0 c1 c2 c3
        go_wp2_with fail
        refine HOD.out.mono ?_
        rintro e w' ⟨rfl, hb⟩
        have HB2' := Lib.hid (ubelow_on hb hdd (Nat.le_refl _))
        clear hb hdd
        go_wp2_with fail
        refine ⟨⟨h + 1, hi, ?_, rfl, by omega, hin, HB2', Lib.hid (fun t z ht hz => ?_), HHI⟩, ?_⟩
        · first | rfl | (congr 1; omega) | go_num
        · have hy2 := HK.out.1 hneg
          rcases Nat.lt_or_eq_of_le (Nat.le_of_lt_succ ht) with hq | hq
          · exact oLess_trans (HM.out t z hq hz) hy2
          · rw [hq, HY.out] at hz; injection hz with hz; rw [← hz]; exact hy2
        · simp [intOf]; omega
      · have HNG := Lib.hid hneg
        go_upto_region 5 with fail
        go_still_tail 6, (by kernel_rfl)
        change wpList _ _ _ _ _ wr.drew
        have hdd : Below w1.heap.size w1 wr.drew := HB.out.drew
        have HOD := Lib.hid (HO.out wr.drew)
        generalize wr.drew = W2 at hdd HOD ⊢
        clear t0 t1 t2 t3 c0 c1 c2 c3
        go_wp2_with fail
        refine HOD.out.mono ?_
        rintro e w' ⟨rfl, hb⟩
        have HB2' := Lib.hid (ubelow_on hb hdd (Nat.le_refl _))
        clear hb hdd
        go_wp2_with fail
        refine ⟨⟨lo, h, rfl, ?_, by omega, by omega, HB2', HLO, Lib.hid (fun t z ht hz hzl => ?_)⟩, ?_⟩
        · first | rfl | (congr 1; omega) | go_num
        · have hy2 : ¬ _ := fun e => absurd (HK.out.2 e) (by have := HNG.out; omega)
          rcases Nat.lt_or_eq_of_le ht with hq | hq
          · exact hy2 (oLess_trans (HM2.out t z hq hz) hzl)
          · rw [← hq, HY.out] at hz; injection hz with hz; rw [← hz] at hzl; exact hy2 hzl
        · simp [intOf]; omega
    · obtain rfl : hi = lo := by omega
      have hP := HFIN.out hi hin HLO.out HHI.out
      have HP := Lib.hid hP
      clear hP
      by_cases hn : hi < n
      · obtain ⟨y, hy⟩ : ∃ y, l[hi]? = some y := ⟨_, List.getElem?_eq_getElem (by rw [← HN.out]; omega)⟩
        obtain ⟨g, rfl, hc⟩ := hrow.at_ hy
        have hord := fun W => order_any y ⟨x1, x2, x3, x4⟩ W
        obtain ⟨c0, c1, c2, c3⟩ := hc
        obtain ⟨k, hk⟩ : ∃ k, k = oOrd y ⟨x1, x2, x3, x4⟩ := ⟨_, rfl⟩
        have hbb : B = decide (k = 0) := by rw [HB2.out, HP.out, hy, hk]
        rw [← hk] at hord
        obtain ⟨y1, y2, y3, y4⟩ := y
        try dsimp only at c0 c1 c2 c3
        unfold oenc at hord
        try dsimp only at hord
        have HO := Lib.hid hord
        have HBB := Lib.hid hbb
        clear hord hbb hy hk hrow
        by_cases hk0 : k = 0
        · have hB' : B = true := by rw [HBB.out]; simp [hk0]
          have HB' := Lib.hid hB'
          clear hB'
          go_upto_region 8 with fail
          go_region_held3 (fun w' => w'.cell? ⟨g, hi * 4, none⟩ = some (.string y1) ∧ w'.cell? ⟨g, hi * 4 + 1, none⟩ = some (.string y2) ∧ w'.cell? ⟨g, hi * 4 + 2, none⟩ = some (.int .i64 y3) ∧ w'.cell? ⟨g, hi * 4 + 3, none⟩ = some (.int .i64 y4) ∧ w'.cell? ⟨tb, 0, none⟩ = some (.string x1) ∧ w'.cell? ⟨tb, 1, none⟩ = some (.string x2) ∧ w'.cell? ⟨tb, 2, none⟩ = some (.int .i64 x3) ∧ w'.cell? ⟨tb, 3, none⟩ = some (.int .i64 x4))
            (first | exact ⟨c0, c1, c2, c3, t0, t1, t2, t3⟩ | go_keep)
            (first
              | (go_at_call 63
                 refine (HO.out _).mono ?_
                 rintro e w2 ⟨rfl, hb2⟩
                 have c0 := ukeep hb2 c0
                 have c1 := ukeep hb2 c1
                 have c2 := ukeep hb2 c2
                 have c3 := ukeep hb2 c3
                 have t0 := ukeep hb2 t0
                 have t1 := ukeep hb2 t1
                 have t2 := ukeep hb2 t2
                 have t3 := ukeep hb2 t3))
          go_wp2_with fail
          go_ret2
          rw [HP.out, HB'.out]
          exact ⟨rfl, HF.out _ (ubelow_on hb2 (by repeat (first | exact HB.out | with_reducible refine below_drewN ?_ _ | with_reducible refine below_drew0 ?_)) (Nat.le_refl _))⟩
        · have hB' : B = (k == 0) := by rw [HBB.out]; first | rfl | simp
          have HB' := Lib.hid hB'
          clear hB'
          go_upto_region 8 with fail
          go_region_held3 (fun w' => w'.cell? ⟨g, hi * 4, none⟩ = some (.string y1) ∧ w'.cell? ⟨g, hi * 4 + 1, none⟩ = some (.string y2) ∧ w'.cell? ⟨g, hi * 4 + 2, none⟩ = some (.int .i64 y3) ∧ w'.cell? ⟨g, hi * 4 + 3, none⟩ = some (.int .i64 y4) ∧ w'.cell? ⟨tb, 0, none⟩ = some (.string x1) ∧ w'.cell? ⟨tb, 1, none⟩ = some (.string x2) ∧ w'.cell? ⟨tb, 2, none⟩ = some (.int .i64 x3) ∧ w'.cell? ⟨tb, 3, none⟩ = some (.int .i64 x4))
            (first | exact ⟨c0, c1, c2, c3, t0, t1, t2, t3⟩ | go_keep)
            (first
              | (go_at_call 63
                 refine (HO.out _).mono ?_
                 rintro e w2 ⟨rfl, hb2⟩
                 have c0 := ukeep hb2 c0
                 have c1 := ukeep hb2 c1
                 have c2 := ukeep hb2 c2
                 have c3 := ukeep hb2 c3
                 have t0 := ukeep hb2 t0
                 have t1 := ukeep hb2 t1
                 have t2 := ukeep hb2 t2
                 have t3 := ukeep hb2 t3))
          go_wp2_with fail
          go_ret2
          rw [HP.out, HB'.out]
          exact ⟨rfl, HF.out _ (ubelow_on hb2 (by repeat (first | exact HB.out | with_reducible refine below_drewN ?_ _ | with_reducible refine below_drew0 ?_)) (Nat.le_refl _))⟩
      · have hbb : B = false := by
          rw [HB2.out, HP.out]
          have : l[hi]? = none := List.getElem?_eq_none (by rw [← HN.out]; omega)
          rw [this]
        have HBB := Lib.hid hbb
        clear hbb hrow
        go_upto_region 8 with fail
        go_quiet (fail)
        go_wp2_with fail
        go_ret2
        rw [HP.out, HBB.out]
        exact ⟨rfl, HF.out _ (below_drewN HB.out _)⟩
theorem place_any {w : World} {ob : Nat} {p v : Value} {l : OL} (x : OfM) (h : OHead w ob p v l) (hr : Rising l) (hl : l.length ≤ 1000) :
    Calls Tryz.prog 32 #[.pointer (some ⟨ob, 0, none⟩), .agg (oenc x).toArray] w fun e w' => e = .returned (.tuple #[.int .i64 (posO x l : Nat), .bool (hasO l x)]) ∧ Below w.heap.size w w' := by
  have hc := h.at_.c1
  obtain ⟨w1, hw1⟩ : ∃ w1, w1 = w.alloc (.cells #[.string x.g, .string x.t, .int .i64 x.q, .int .i64 x.a] 32) := ⟨_, rfl⟩
  have hb1 : Below w.heap.size w w1 := by rw [hw1]; exact (Below.refl _ _).alloc (Nat.le_refl _) _
  have hc1 : w1.cell? ⟨ob, 1, none⟩ = some v := ukeep hb1 hc
  have hBS : ∀ W, Below w1.heap.size w1 W → Calls Tryz.prog 62 #[v, .agg (oenc x).toArray, .func (.func 63) #[] #[]] W fun e w' => e = .returned (.tuple #[.int .i64 (posO x l : Nat), .bool (hasO l x)]) ∧ Below W.heap.size W w' := fun W hW => bsf_any v l x W ((h.row.new hb1).new hW) hr hl
  have d0 : w1.cell? ⟨w.heap.size, 0, none⟩ = some (.string x.g) := by rw [hw1]; simp [go_sem]
  have d1 : w1.cell? ⟨w.heap.size, 1, none⟩ = some (.string x.t) := by rw [hw1]; simp [go_sem]
  have d2 : w1.cell? ⟨w.heap.size, 2, none⟩ = some (.int .i64 x.q) := by rw [hw1]; simp [go_sem]
  have d3 : w1.cell? ⟨w.heap.size, 3, none⟩ = some (.int .i64 x.a) := by rw [hw1]; simp [go_sem]
  obtain ⟨P, hP⟩ : ∃ P, P = posO x l := ⟨_, rfl⟩
  obtain ⟨B, hB⟩ : ∃ B, B = hasO l x := ⟨_, rfl⟩
  rw [← hP, ← hB] at hBS ⊢
  obtain ⟨x1, x2, x3, x4⟩ := x
  obtain ⟨sb, hsb⟩ : ∃ sb, sb = w.heap.size := ⟨_, rfl⟩
  have hF : ∀ W, Below w1.heap.size w1 W → Below w.heap.size w W := fun W hW => hb1.trans (hW.mono hb1.size)
  try dsimp only at hw1 d0 d1 d2 d3
  rw [← hsb] at d0 d1 d2 d3
  unfold oenc at hBS ⊢
  try dsimp only at hBS ⊢
  have HBS := Lib.hid hBS
  have HF := Lib.hid hF
  have HW1 := Lib.hid hw1
  have HSB := Lib.hid hsb
  have HB1 : Hid (Below w1.heap.size w1 w1) := Lib.hid (Below.refl _ _)
  clear hBS hF hw1 hsb hP hB hb1 hc h
  go_enter Tryz.func32, Tryz.ntmps32
  go_upto_region 1 with fail
  rw [← HW1.out, ← HSB.out]
  go_region_held3 (fun w' => w'.cell? ⟨ob, 1, none⟩ = some v ∧ w'.cell? ⟨sb, 0, none⟩ = some (.string x1) ∧ w'.cell? ⟨sb, 1, none⟩ = some (.string x2) ∧ w'.cell? ⟨sb, 2, none⟩ = some (.int .i64 x3) ∧ w'.cell? ⟨sb, 3, none⟩ = some (.int .i64 x4))
    (first | exact ⟨hc1, d0, d1, d2, d3⟩ | go_keep)
    (first
      | (go_at_call 62
         refine (HBS.out _ ?_).mono ?_
         · repeat (first | exact HB1.out | with_reducible refine below_drewN ?_ _ | with_reducible refine below_drew0 ?_)
         rintro e w2 ⟨rfl, hb2⟩
         have hc1 := ukeep hb2 hc1
         have d0 := ukeep hb2 d0
         have d1 := ukeep hb2 d1
         have d2 := ukeep hb2 d2
         have d3 := ukeep hb2 d3))
  all_goals
    go_wp2_with fail
    go_ret2
    exact ⟨rfl, HF.out _ (ubelow_on hb2 (by repeat (first | exact HB1.out | with_reducible refine below_drewN ?_ _ | with_reducible refine below_drew0 ?_)) (Nat.le_refl _))⟩
end Go.Proofs.YtemimmnamajooaaGreat
