/- A part. -/
import Derived.Deep.Grids
import Derived.Lib.SmallJoins
import Derived.Test.YtkmmbpdiljgkgaaTte29
set_option linter.unusedVariables false
set_option linter.unusedSimpArgs false
namespace Go.Proofs.Ytkmmbpdiljgkgaa
open Go.Joins Go.RowKit Go.Deep
open Go.ChangeShapes Go.WideShapes
structure Op3 where
  k : Int
  due : Int
  rc : Int
instance : Inhabited Op3 := ⟨⟨0, 0, 0⟩⟩
structure O3At (W : World) (b o : Nat) (x : Op3) : Prop where
  c0 : W.cell? ⟨b, o, none⟩ = some (.int .i64 x.k)
  c1 : W.cell? ⟨b, o + 1, none⟩ = some (.int .i64 x.due)
  c2 : W.cell? ⟨b, o + 2, none⟩ = some (.int .i64 x.rc)
def O3s (W : World) (v : Value) (os : List Op3) : Prop := ∃ a cap, v = .slice a os.length cap ∧ (os = [] ∨ ∃ b o, a = some ⟨b, o, none⟩ ∧ ∀ i x, os[i]? = some x → O3At W b (o + i * 3) x)
theorem O3s.form {W : World} {v : Value} {os : List Op3} (h : O3s W v os) : ∃ a cap, v = .slice a os.length cap := by
  obtain ⟨a, cap, e, _⟩ := h
  exact ⟨a, cap, e⟩
theorem O3s.at_ {W : World} {a : Option Addr} {n cap k : Nat} {os : List Op3} {x : Op3} (h : O3s W (.slice a n cap) os) (hk : os[k]? = some x) : ∃ b o, a = some ⟨b, o, none⟩ ∧ O3At W b (o + k * 3) x := by
  obtain ⟨a', cap', e, h⟩ := h
  cases e
  rcases h with h | ⟨b, o, e, h⟩
  · rw [h] at hk; cases hk
  · exact ⟨b, o, e, h k _ hk⟩
theorem O3s.below {w w' : World} {v : Value} {os : List Op3} (h : O3s w v os) (hb : Below w.heap.size w w') : O3s w' v os := by
  obtain ⟨a, cap, e, h⟩ := h
  refine ⟨a, cap, e, h.imp id ?_⟩
  rintro ⟨b, o, e2, h⟩
  refine ⟨b, o, e2, fun i x hx => ?_⟩
  obtain ⟨h1, h2, h3⟩ := h i x hx
  exact ⟨keep4 hb h1, keep4 hb h2, keep4 hb h3⟩
section
variable {H : Type} {enc : TypeId × Value → H} {W : World}
set_option maxRecDepth 100000 in
theorem pr_open_op3 {n : Nat} {b o : Nat} {cs : List Value} {y : DataW H × List MemPlace} (hcs : W.cells? 0 ⟨b, o, none⟩ 3 = some cs) (h : DataW.trod enc Try.prog W 0 (fun _ => true) true n 31 cs = some y) :
    ∃ x : Op3, O3At W b o x ∧ (Lit.int .i64 x.due).wf = true ∧ (Lit.int .i64 x.rc).wf = true := by
  obtain ⟨_, hlen, hat⟩ := World.cells?_some hcs
  obtain ⟨xs, m, _, _, _, hl, hg⟩ := DataW.trod_struct Try.underlying31 h
  match cs, hlen with
  | [c0, c1, c2], _ =>
    have hx : xs.length = 3 := hl
    match xs, hx with
    | [y0, y1, y2], _ =>
      have g0 : DataW.trod enc Try.prog W 0 (fun _ => true) true m 3 [c0] = some y0 := hg 0 _ rfl
      have g1 : DataW.trod enc Try.prog W 0 (fun _ => true) true m 3 [c1] = some y1 := hg 1 _ rfl
      have g2 : DataW.trod enc Try.prog W 0 (fun _ => true) true m 3 [c2] = some y2 := hg 2 _ rfl
      obtain ⟨z0, e0, _, w0⟩ := DataW.trod_int Try.underlying3 g0
      obtain ⟨z1, e1, _, w1⟩ := DataW.trod_int Try.underlying3 g1
      obtain ⟨z2, e2, _, w2⟩ := DataW.trod_int Try.underlying3 g2
      obtain rfl : c0 = _ := List.singleton_inj.1 e0
      obtain rfl : c1 = _ := List.singleton_inj.1 e1
      obtain rfl : c2 = _ := List.singleton_inj.1 e2
      refine ⟨⟨z0, z1, z2⟩, ⟨?_, ?_, ?_⟩, w1, w2⟩
      · have := hat 0 (by decide)
        rw [add_none] at this
        exact this
      · have := hat 1 (by decide)
        rw [add_none] at this
        exact this
      · have := hat 2 (by decide)
        rw [add_none] at this
        exact this
set_option maxRecDepth 100000 in
theorem open_op3 {n : Nat} {la : Option Addr} {len cap : Nat} {y : DataW H × List MemPlace} (h : DataW.trod enc Try.prog W 0 (fun _ => true) true n 22 [.slice la len cap] = some y) :
    ∃ os, O3s W (.slice la len cap) os ∧ os.length ≤ maxLen ∧ ∀ x ∈ os, (Lit.int .i64 x.due).wf = true ∧ (Lit.int .i64 x.rc).wf = true := by
  rcases open_slice Try.underlying22 h with ⟨hcs, _⟩ | ⟨a, l, c, m, q, D, Pl, hcs, _, hl, hm, hmm, _, hi⟩
  · cases hcs
    exact ⟨[], ⟨none, 0, rfl, .inl rfl⟩, Nat.zero_le _, fun x hx => by cases hx⟩
  · cases hcs
    have hC : Try.prog.cellsOf 31 = 3 := by kernel_rfl
    rcases Nat.eq_zero_or_pos len with h0 | h0
    · subst h0
      exact ⟨[], ⟨some a, cap, rfl, .inl rfl⟩, Nat.zero_le _, fun x hx => by cases hx⟩
    · have hml : len ≤ m := by rw [hmm]; simpa using hl
      obtain ⟨b, off, spot⟩ := a
      have hspot : spot = none := by
        obtain ⟨cs', h1, _⟩ := hi 0 (by omega)
        rw [hC] at h1
        obtain ⟨_, hlen, hat⟩ := World.cells?_some h1
        have h2 := hat 0 (by decide)
        rw [List.getElem?_eq_getElem (by omega)] at h2
        simpa [Addr.add] using World.cell?_spot h2
      subst hspot
      obtain ⟨X, hX⟩ := choose_lt (n := len) (p := fun i x => O3At W b (off + i * 3) x ∧ (Lit.int .i64 x.due).wf = true ∧ (Lit.int .i64 x.rc).wf = true) (fun i hil => by
        obtain ⟨cs', h1, h2⟩ := hi i (by omega)
        rw [hC, add_none] at h1
        exact pr_open_op3 h1 h2)
      refine ⟨(List.range len).map X, ⟨_, cap, by simp, .inr ⟨b, off, rfl, fun i x hx => ?_⟩⟩, by simpa using Nat.le_trans hl hm, fun x hx => ?_⟩
      · rw [List.getElem?_map] at hx
        obtain ⟨j, hj, rfl⟩ := Option.map_eq_some_iff.1 hx
        have hjl := List.getElem?_eq_some_iff.1 hj
        obtain ⟨h1, h2⟩ := hjl
        rw [List.getElem_range] at h2
        subst h2
        exact (hX _ (by simpa using h1)).1
      · obtain ⟨j, hj, rfl⟩ := List.mem_map.1 hx
        exact (hX j (by simpa using hj)).2
end
def wenc (p : Nat × Nat) : List Value := [.int .i64 0, .int .i64 (p.1 : Nat), .int .i64 (p.2 : Nat)]
def ienc (x : Nat) : List Value := [.int .i64 (x : Nat)]
theorem info_op3 : (Try.prog.info? 31).map (fun i => (i.zero, i.size, i.bytes)) = some (some (.agg #[.int .i64 0, .int .i64 0, .int .i64 0]), 3, 24) := by kernel_rfl
theorem info_i64 : (Try.prog.info? 3).map (fun i => (i.zero, i.size, i.bytes)) = some (some (.int .i64 0), 1, 8) := by kernel_rfl
theorem layO : LayE 31 22 3 wenc where
  under := Try.underlying22
  info := by
    obtain ⟨i, h1, h2, h3, h4⟩ := ginfo_parts info_op3
    exact ⟨i, _, h1, h2, h3, rfl, by omega⟩
  len := fun _ => rfl
  one := fun x u hu => by
    simp [wenc] at hu
    rcases hu with rfl | rfl | rfl <;> rfl
  pos := by decide
theorem layI : LayE 3 33 1 ienc where
  under := Try.underlying33
  info := by
    obtain ⟨i, h1, h2, h3, h4⟩ := ginfo_parts info_i64
    exact ⟨i, _, h1, h2, h3, rfl, by omega⟩
  len := fun _ => rfl
  one := fun x u hu => by
    simp [ienc] at hu
    subst hu
    rfl
  pos := by decide
abbrev WRow (w : World) (v : Value) (l : WL) : Prop := GRow 31 3 wenc w v l
abbrev IRow (w : World) (v : Value) (l : List Nat) : Prop := GRow 3 1 ienc w v l
structure TL (w0 w : World) (F : Nat → Prop) (lb n hd P cap : Nat) (ws : WL) (v : Value) : Prop where
  log : TJ w0 w F lb n hd P cap ws
  row : WRow w v ws
  apart : ∀ q, v.ownBlock = some q → ¬ F q
  low : ∀ q, v.ownBlock = some q → w0.heap.size ≤ q
section
variable {w0 w w' : World} {F : Nat → Prop} {lb n hd P cap : Nat} {ws : WL} {v : Value}
theorem TL.new (h : TL w0 w F lb n hd P cap ws v) (hc : Chg (fun _ => False) w w') : TL w0 w' F lb n hd P cap ws v := ⟨h.log.new hc, h.row.new hc, h.apart, h.low⟩
theorem TL.more {m Q : Nat} (h : TL w0 w F lb n hd P cap ws v) (hm : n ≤ m) (hP : P ≤ Q) : TL w0 w F lb m hd Q cap ws v := ⟨h.log.more hm hP, h.row, h.apart, h.low⟩
structure Apart (F : Nat → Prop) (w : World) (b : Nat) : Prop where
  out : ¬ F b
  lt : b < w.heap.size
theorem Apart.fto {F F' : Nat → Prop} {b : Nat} (h : Apart F w b) (t : FTo F w F' w') : Apart F' w' b := ⟨fun hx => by
  rcases t.fp b hx with a | a
  · exact h.out a
  · have := h.lt; omega, Nat.lt_of_lt_of_le h.lt t.chg.size⟩
theorem TL.fresh (h : TL w0 w F lb n hd P cap ws v) {W : World} {b : Nat} (hb : w.heap.size ≤ b) (hW : b < W.heap.size) : Apart F W b := ⟨fun hx => by have := (h.log.low b hx).2; omega, hW⟩
def wantE (due rc : Int) (hd : Nat) : Int := if (okN due && okN rc) = true then (if due ≤ hd then 16 else 0) else 1
theorem TL.put (h : TL w0 w F lb n hd P cap ws v) (hn : n ≤ 899000) (due rc : Int) (hr : 96 + 20 * (P / 16 + 1) ≤ cap) :
    Calls Try.prog 9 #[.pointer (some ⟨lb, 0, none⟩), .int .i64 due, .int .i64 rc] w fun e w' => e = .returned (.int .i64 (wantE due rc hd)) ∧
      ((wantE due rc hd ≠ 0 ∧ w = w') ∨ (wantE due rc hd = 0 ∧ 0 ≤ due ∧ 0 ≤ rc ∧ ∃ F', TJ w0 w' F' lb (n + 2) hd (P + 31) cap (ws ++ [(due.toNat, rc.toNat)]) ∧ FTo F w F' w')) := by
  unfold wantE
  cases hx : (okN due && okN rc) with
  | false =>
    rw [if_neg (by decide)]
    refine (lput_arg lb due rc w hx).mono ?_
    rintro e w' ⟨rfl, rfl⟩
    exact ⟨rfl, .inl ⟨by decide, rfl⟩⟩
  | true =>
    rw [if_pos rfl]
    by_cases hle : due ≤ hd
    · rw [if_pos hle]
      refine (h.log.late due rc hx hle).mono ?_
      rintro e w' ⟨rfl, rfl⟩
      exact ⟨rfl, .inl ⟨by decide, rfl⟩⟩
    · rw [if_neg hle]
      have hx' := hx
      unfold okN at hx'
      simp only [Bool.and_eq_true, decide_eq_true_eq] at hx'
      obtain ⟨⟨d0, d1⟩, r0, r1⟩ := hx'
      obtain ⟨d, hd'⟩ : ∃ d : Nat, due = (d : Int) := ⟨due.toNat, by omega⟩
      obtain ⟨r, hr'⟩ : ∃ d : Nat, rc = (d : Int) := ⟨rc.toNat, by omega⟩
      subst hd' hr'
      refine (h.log.put hn d r (by omega) (by omega) (by omega) hr).mono ?_
      rintro e w' ⟨rfl, F', hJ, ht⟩
      exact ⟨rfl, .inr ⟨rfl, d0, r0, F', by simpa using hJ, ht⟩⟩
theorem TL.took (h : TL w0 w F lb n hd P cap ws v) {F' : Nat → Prop} {n' P' : Nat} {ws' : WL} (hJ : TJ w0 w' F' lb n' hd P' cap ws') (ht : FTo F w F' w') : WRow w' v ws ∧ (∀ q, v.ownBlock = some q → Apart F' w' q) := by
  refine ⟨h.row.chg ht.chg (fun q hq => h.apart q hq), fun q hq => ?_⟩
  exact (⟨h.apart q hq, h.row.lt q hq⟩ : Apart F w q).fto ht
end
end Go.Proofs.Ytkmmbpdiljgkgaa
namespace Go.Proofs.Ytkmmbpdiljgkgaa
open Go.RowKit Go.Deep
section
variable {w0 w w' : World} {F : Nat → Prop} {lb n hd P cap : Nat} {ws : WL} {v : Value}
theorem TL.note {F' : Nat → Prop} {n' P' : Nat} {d r : Nat} (h : TL w0 w F lb n hd P cap ws v) (hl : ws.length ≤ 1000) (hJ : TJ w0 w' F' lb n' hd P' cap (ws ++ [(d, r)])) (ht : FTo F w F' w') (ty : TypeId) :
    ∃ v' w5, (Builtin.append_ #[22, 22] ty #[v, .slice (some ⟨w'.heap.size, 0, none⟩) 1 1]).run Try.prog (w'.alloc (.cells #[.int .i64 0, .int .i64 (d : Nat), .int .i64 (r : Nat)] 31)) = .ok v' w5 ∧ TL w0 w5 F' lb n' hd P' cap (ws ++ [(d, r)]) v' := by
  obtain ⟨hr, hap⟩ := h.took hJ ht
  obtain ⟨W2, hW2⟩ : ∃ W, W = w'.alloc (.cells #[.int .i64 0, .int .i64 (d : Nat), .int .i64 (r : Nat)] 31) := ⟨_, rfl⟩
  have hc2 : Chg (fun _ => False) w' W2 := hW2 ▸ Chg.alloc _ (Chg.refl _ _) _
  have hs2 : W2.heap.size = w'.heap.size + 1 := by rw [hW2, World.size_alloc]
  have hcell : ∀ j u, (wenc (d, r))[j]? = some u → W2.cell? ⟨w'.heap.size, j, none⟩ = some u := fun j u hu => by
    match j with
    | 0 => simp [wenc] at hu; subst hu; rw [hW2]; simp
    | 1 => simp [wenc] at hu; subst hu; rw [hW2]; simp
    | 2 => simp [wenc] at hu; subst hu; rw [hW2]; simp
    | j + 3 => simp [wenc] at hu
  obtain ⟨v', w5, hrun, hA⟩ := app_g layO (w := W2) (d, r) (q := w'.heap.size) (c := 1) (hr.new hc2) (by omega) hcell ty
  rw [← hW2]
  have hg := Chg.of_grown (S := fun q => some q = v.ownBlock) hA.grown (fun q hq _ => hq.symm)
  refine ⟨v', w5, hrun, ⟨(hJ.new hc2).chgd hg (fun q hq e => (hap q e.symm).out hq) (fun q hq e => by have := h.low q e.symm; omega), hA.row, fun q hq => ?_, fun q hq => ?_⟩⟩
  · rcases hA.own with e | e
    · exact (hap q (by rw [← e]; exact hq)).out
    · rw [e] at hq
      injection hq with hq
      intro hx
      have := (hJ.low q hx).2
      omega
  · rcases hA.own with e | e
    · exact h.low q (by rw [← e]; exact hq)
    · rw [e] at hq
      injection hq with hq
      have := hJ.below.size
      omega
structure TB (w0 w : World) (F : Nat → Prop) (lb n hd P cap : Nat) (ws : WL) (v : Value) (Y : Nat) (due : Int) : Prop where
  tl : TL w0 w F lb n hd P cap ws v
  box : w.cell? ⟨Y, 1, none⟩ = some (.int .i64 due)
  yF : Apart F w Y
theorem TB.new {Y : Nat} {due : Int} (h : TB w0 w F lb n hd P cap ws v Y due) (hb : Below w.heap.size w w') : TB w0 w' F lb n hd P cap ws v Y due :=
  ⟨h.tl.new (Chg.of_below hb), keep4 hb h.box, h.yF.out, Nat.lt_of_lt_of_le h.yF.lt hb.size⟩
theorem TB.next {Y : Nat} {due : Int} (h : TB w0 w F lb n hd P cap ws v Y due) {W : World} (hb : Below w.heap.size w W) {v12 v13 : Value} (h12 : IRow W v12 ((comeL ws (hd + 1)).map (·.2))) (h13 : WRow W v13 (restL ws (hd + 1)))
    (o12 : ∀ q, v12.ownBlock = some q → w.heap.size ≤ q) (o13 : ∀ q, v13.ownBlock = some q → w.heap.size ≤ q) (hn : n ≤ 899000) (h1 : (hd : Int) < due) (h2 : due ≤ 4611686018427387904) (hr : 96 + 20 * ((P + ws.length) / 16) ≤ cap) :
    Calls Try.prog 10 #[.pointer (some ⟨lb, 0, none⟩), .int .i64 due] W fun e w' => ∃ vg F' l, e = .returned (.tuple #[vg, .bool true, .int .i64 0]) ∧ TB w0 w' F' lb (n + 2) (hd + 1) (P + ws.length) cap (restL ws (hd + 1)) v13 Y due ∧ IRow w' v12 ((comeL ws (hd + 1)).map (·.2)) ∧ Told w' vg (hd + 1) l (comeL ws (hd + 1)) := by
  have hJ := h.tl.log.new (Chg.of_below hb : Chg (fun _ => False) w W)
  refine (hJ.next hn due h1 h2 hr).mono ?_
  rintro e w' ⟨vg, F', l, rfl, hJ', ht, hT, _⟩
  have a12 : ∀ q, v12.ownBlock = some q → ¬ F q := fun q hq hx => by have := o12 q hq; have := (h.tl.log.low q hx).2; omega
  have a13 : ∀ q, v13.ownBlock = some q → Apart F W q := fun q hq => ⟨fun hx => by have := o13 q hq; have := (h.tl.log.low q hx).2; omega, h13.lt q hq⟩
  have hyW : Apart F W Y := ⟨h.yF.out, Nat.lt_of_lt_of_le h.yF.lt hb.size⟩
  refine ⟨vg, F', l, rfl, ⟨⟨hJ', h13.chg ht.chg (fun q hq => (a13 q hq).out), fun q hq => ((a13 q hq).fto ht).out, fun q hq => ?_⟩, ht.chg.cell (keep4 hb h.box) h.yF.out, hyW.fto ht⟩, h12.chg ht.chg a12, hT⟩
  have := o13 q hq
  have := h.tl.log.below.size
  omega
end
structure P3 (w W : World) (ws : WL) (x j : Nat) (v12 v13 : Value) : Prop where
  r12 : IRow W v12 ((comeL (ws.take j) x).map (·.2))
  r13 : WRow W v13 (restL (ws.take j) x)
  bel : Below w.heap.size w W
  o12 : ∀ q, v12.ownBlock = some q → w.heap.size ≤ q
  o13 : ∀ q, v13.ownBlock = some q → w.heap.size ≤ q
  ap : ∀ q, v12.ownBlock = some q → v13.ownBlock ≠ some q
theorem P3.start (w W : World) (hb : Below w.heap.size w W) (ws : WL) (x : Nat) : P3 w W ws x 0 (.slice none 0 0) (.slice none 0 0) := ⟨GRow.nil _, GRow.nil _, hb, fun q hq => (by cases hq), fun q hq => (by cases hq), fun q hq => (by cases hq)⟩
theorem P3.want {w W W3 : World} {ws : WL} {x j : Nat} {v12 v13 : Value} (h : P3 w W ws x j v12 v13) (hl : ws.length ≤ 1000) {p : Nat × Nat} (hp : ws[j]? = some p) (hx : p.1 = x) (hb3 : Below W.heap.size W W3) (ty : TypeId) :
    ∃ v' w5, (Builtin.append_ #[33, 33] ty #[v12, .slice (some ⟨W3.heap.size, 0, none⟩) 1 1]).run Try.prog (W3.alloc (.cells #[.int .i64 (p.2 : Nat)] 3)) = .ok v' w5 ∧ P3 w w5 ws x (j + 1) v' v13 := by
  obtain ⟨W4, hW4⟩ : ∃ W, W = W3.alloc (.cells #[.int .i64 (p.2 : Nat)] 3) := ⟨_, rfl⟩
  have hb4 : Below W.heap.size W W4 := hW4 ▸ hb3.alloc hb3.size _
  have hs4 : W4.heap.size = W3.heap.size + 1 := by rw [hW4, World.size_alloc]
  have hcell : ∀ j u, (ienc p.2)[j]? = some u → W4.cell? ⟨W3.heap.size, j, none⟩ = some u := fun j u hu => by
    match j with
    | 0 => simp [ienc] at hu; subst hu; rw [hW4]; simp
    | j + 1 => simp [ienc] at hu
  have hl1 : ((comeL (ws.take j) x).map (·.2)).length ≤ 1000 := by
    rw [List.length_map]
    exact Nat.le_trans (List.length_filter_le _ _) (by rw [List.length_take]; omega)
  obtain ⟨v', w5, hrun, hA⟩ := app_g layI (w := W4) p.2 (q := W3.heap.size) (c := 1) (h.r12.new (Chg.of_below hb4)) (by omega) hcell ty
  rw [← hW4]
  have hg := Chg.of_grown (S := fun q => some q = v12.ownBlock) hA.grown (fun q hq _ => hq.symm)
  have hbw := h.bel.size
  have hbw4 := hb4.size
  have hbb : Below w.heap.size w W4 := h.bel.trans (hb4.mono hbw)
  have hown : ∀ q, v'.ownBlock = some q → v12.ownBlock = some q ∨ q = W4.heap.size := fun q hq => by
    rcases hA.own with e | e
    · exact .inl (by rw [← e]; exact hq)
    · rw [e] at hq; injection hq with hq; exact .inr hq.symm
  have e1 : (comeL (ws.take (j + 1)) x).map (·.2) = (comeL (ws.take j) x).map (·.2) ++ [p.2] := by
    rw [take_step hp]; unfold comeL; rw [List.filter_append, List.filter_cons_of_pos (by simp [hx]), List.map_append]; rfl
  have e2 : restL (ws.take (j + 1)) x = restL (ws.take j) x := by
    rw [take_step hp]; unfold restL; rw [List.filter_append, List.filter_cons_of_neg (by simp [hx])]; simp
  refine ⟨v', w5, hrun, ⟨by rw [e1]; exact hA.row, by rw [e2]; exact (h.r13.new (Chg.of_below hb4)).chg hg (fun q hq e => h.ap q e.symm hq), hbb.trans (hg.below (fun q _ hq => h.o12 q hq.symm) hbb.size), fun q hq => ?_, h.o13, fun q hq hx2 => ?_⟩⟩
  · rcases hown q hq with e | e
    · exact h.o12 q e
    · omega
  · rcases hown q hq with e | e
    · exact h.ap q e hx2
    · have := h.r13.lt q hx2; omega
theorem P3.left {w W W3 : World} {ws : WL} {x j : Nat} {v12 v13 : Value} (h : P3 w W ws x j v12 v13) (hl : ws.length ≤ 1000) {p : Nat × Nat} (hp : ws[j]? = some p) (hx : p.1 ≠ x) (hb3 : Below W.heap.size W W3) (ty : TypeId) :
    ∃ v' w5, (Builtin.append_ #[22, 22] ty #[v13, .slice (some ⟨W3.heap.size, 0, none⟩) 1 1]).run Try.prog (W3.alloc (.cells #[.int .i64 0, .int .i64 (p.1 : Nat), .int .i64 (p.2 : Nat)] 31)) = .ok v' w5 ∧ P3 w w5 ws x (j + 1) v12 v' := by
  obtain ⟨W4, hW4⟩ : ∃ W, W = W3.alloc (.cells #[.int .i64 0, .int .i64 (p.1 : Nat), .int .i64 (p.2 : Nat)] 31) := ⟨_, rfl⟩
  have hb4 : Below W.heap.size W W4 := hW4 ▸ hb3.alloc hb3.size _
  have hs4 : W4.heap.size = W3.heap.size + 1 := by rw [hW4, World.size_alloc]
  have hcell : ∀ j u, (wenc p)[j]? = some u → W4.cell? ⟨W3.heap.size, j, none⟩ = some u := fun j u hu => by
    match j with
    | 0 => simp [wenc] at hu; subst hu; rw [hW4]; simp
    | 1 => simp [wenc] at hu; subst hu; rw [hW4]; simp
    | 2 => simp [wenc] at hu; subst hu; rw [hW4]; simp
    | j + 3 => simp [wenc] at hu
  have hl1 : (restL (ws.take j) x).length ≤ 1000 := Nat.le_trans (List.length_filter_le _ _) (by rw [List.length_take]; omega)
  obtain ⟨v', w5, hrun, hA⟩ := app_g layO (w := W4) p (q := W3.heap.size) (c := 1) (h.r13.new (Chg.of_below hb4)) (by omega) hcell ty
  rw [← hW4]
  have hg := Chg.of_grown (S := fun q => some q = v13.ownBlock) hA.grown (fun q hq _ => hq.symm)
  have hbw := h.bel.size
  have hbw4 := hb4.size
  have hbb : Below w.heap.size w W4 := h.bel.trans (hb4.mono hbw)
  have hown : ∀ q, v'.ownBlock = some q → v13.ownBlock = some q ∨ q = W4.heap.size := fun q hq => by
    rcases hA.own with e | e
    · exact .inl (by rw [← e]; exact hq)
    · rw [e] at hq; injection hq with hq; exact .inr hq.symm
  have e1 : comeL (ws.take (j + 1)) x = comeL (ws.take j) x := by
    rw [take_step hp]; unfold comeL; rw [List.filter_append, List.filter_cons_of_neg (by simp [hx])]; simp
  have e2 : restL (ws.take (j + 1)) x = restL (ws.take j) x ++ [p] := by
    rw [take_step hp]; unfold restL; rw [List.filter_append, List.filter_cons_of_pos (by simp [hx])]; rfl
  refine ⟨v', w5, hrun, ⟨by rw [e1]; exact (h.r12.new (Chg.of_below hb4)).chg hg (fun q hq e => h.ap q hq e.symm), by rw [e2]; exact hA.row, hbb.trans (hg.below (fun q _ hq => h.o13 q hq.symm) hbb.size), h.o12, fun q hq => ?_, fun q hq hx2 => ?_⟩⟩
  · rcases hown q hq with e | e
    · exact h.o13 q e
    · omega
  · rcases hown q hx2 with e | e
    · exact h.ap q hq e
    · have := h.r12.lt q hq; omega
theorem P3.end_ {w W : World} {ws : WL} {x : Nat} {v12 v13 : Value} (h : P3 w W ws x ws.length v12 v13) : IRow W v12 ((comeL ws x).map (·.2)) ∧ WRow W v13 (restL ws x) := by
  have h1 := h.r12
  have h2 := h.r13
  rw [List.take_length] at h1 h2
  exact ⟨h1, h2⟩
theorem wrow_at {w : World} {a : Option Addr} {n c : Nat} {l : WL} (h : WRow w (.slice a n c) l) {j : Nat} {p : Nat × Nat} (hp : l[j]? = some p) : ∃ q, a = some ⟨q, 0, none⟩ ∧ w.cell? ⟨q, j * 3, none⟩ = some (.int .i64 0) ∧ w.cell? ⟨q, j * 3 + 1, none⟩ = some (.int .i64 (p.1 : Nat)) ∧ w.cell? ⟨q, j * 3 + 2, none⟩ = some (.int .i64 (p.2 : Nat)) := by
  obtain ⟨q, e, hq⟩ := h.at_ layO hp
  exact ⟨q, e, hq 0 _ rfl, hq 1 _ rfl, hq 2 _ rfl⟩
theorem irow_at {w : World} {a : Option Addr} {n c : Nat} {l : List Nat} (h : IRow w (.slice a n c) l) {j : Nat} {r : Nat} (hp : l[j]? = some r) : ∃ q, a = some ⟨q, 0, none⟩ ∧ w.cell? ⟨q, j, none⟩ = some (.int .i64 (r : Nat)) := by
  obtain ⟨q, e, hq⟩ := h.at_ layI hp
  have := hq 0 _ rfl
  rw [Nat.mul_one, Nat.add_zero] at this
  exact ⟨q, e, this⟩
attribute [local go_sem] fr_opt
theorem wantE_cases (due rc : Int) (hd : Nat) : ((due < 0 ∨ 1099511627776 < due ∨ rc < 0 ∨ 1099511627776 < rc) ∧ wantE due rc hd = 1) ∨ ((0 ≤ due ∧ due ≤ 1099511627776 ∧ 0 ≤ rc ∧ rc ≤ 1099511627776) ∧ due ≤ hd ∧ wantE due rc hd = 16) ∨ ((0 ≤ due ∧ due ≤ 1099511627776 ∧ 0 ≤ rc ∧ rc ≤ 1099511627776) ∧ (hd : Int) < due ∧ wantE due rc hd = 0) := by
  unfold wantE okN
  by_cases h : (0 ≤ due ∧ due ≤ 1099511627776 ∧ 0 ≤ rc ∧ rc ≤ 1099511627776)
  · obtain ⟨a, b, c, d⟩ := h
    rw [decide_eq_true a, decide_eq_true b, decide_eq_true c, decide_eq_true d]
    by_cases hl : due ≤ hd
    · exact .inr (.inl ⟨⟨a, b, c, d⟩, hl, by simp [hl]⟩)
    · exact .inr (.inr ⟨⟨a, b, c, d⟩, by omega, by simp [hl]⟩)
  · refine .inl ⟨by omega, if_neg fun hx => h ?_⟩
    simp only [Bool.and_eq_true, decide_eq_true_eq] at hx
    exact ⟨hx.1.1, hx.1.2, hx.2.1, hx.2.2⟩
theorem TB.more {w0 w : World} {F : Nat → Prop} {lb n hd P cap m Q : Nat} {ws : WL} {v : Value} {Y : Nat} {due : Int} (h : TB w0 w F lb n hd P cap ws v Y due) (hm : n ≤ m) (hP : P ≤ Q) : TB w0 w F lb m hd Q cap ws v Y due := ⟨h.tl.more hm hP, h.box, h.yF⟩
theorem twf64 {n : Int} (h : (Lit.int .i64 n).wf = true) : -9223372036854775808 ≤ n ∧ n ≤ 9223372036854775807 := by
  have h2 : IntKind.i64.min ≤ n ∧ n ≤ IntKind.i64.max := by simpa [Lit.wf] using h
  have h3 : IntKind.i64.max = 9223372036854775807 := rfl
  have h4 : IntKind.i64.min = -9223372036854775808 := rfl
  omega
set_option maxHeartbeats 8000000 in
set_option maxRecDepth 100000 in
theorem walk_TlogTells (hand : Int) (v : Value) (os : List Op3) (w : World) (hh : (Lit.int .i64 hand).wf = true) (hv : O3s w v os) (hm : os.length ≤ maxLen) (hf : ∀ x ∈ os, (Lit.int .i64 x.due).wf = true ∧ (Lit.int .i64 x.rc).wf = true) :
    Calls Try.prog 3 #[.int .i64 hand, v] w fun e w' => e = .returned (.bool true) ∧ Below w.heap.size w w' := by
  obtain ⟨a, cap, rfl⟩ := hv.form
  obtain ⟨hh1, hh2⟩ := twf64 hh
  have HAW := Lib.hid (tawake_any w)
  have hcl : ∀ W, Below w.heap.size w W → ∀ (k : Nat) (x : Op3), os[k]? = some x → (∃ b o, a = some ⟨b, o, none⟩ ∧ O3At W b (o + k * 3) x) ∧ (-9223372036854775808 ≤ x.due ∧ x.due ≤ 9223372036854775807) := fun W hb k x hx => ⟨(hv.below hb).at_ hx, twf64 (hf x (List.mem_of_getElem? hx)).1⟩
  obtain ⟨N, hN⟩ : ∃ N, N = os.length := ⟨_, rfl⟩
  have HCL := Lib.hid hcl
  have HN := Lib.hid hN
  rw [← hN]
  clear hcl hN hv hf hm hh
  by_cases h200 : 200 < N
  · have h200' : (200 : Int) < (N : Int) := by omega
    clear h200
    go_enter Try.func3, Try.ntmps3
    go_wp2_with fail
    refine HAW.out.mono ?_
    rintro e w1 ⟨rfl, hb1⟩
    have HB1 := Lib.hid hb1
    clear hb1
    go_wp2_with fail
    go_ret
    exact ⟨rfl, HB1.out⟩
  · have h200' : ¬ (200 : Int) < (N : Int) := by omega
    have hN200 : N ≤ 200 := by omega
    clear h200
    by_cases hneg : hand < 0
    · have hneg' : decide (hand < 0) = true := decide_eq_true hneg
      go_enter Try.func3, Try.ntmps3
      go_wp2_with fail
      refine HAW.out.mono ?_
      rintro e w1 ⟨rfl, hb1⟩
      have HB1 := Lib.hid hb1
      clear hb1
      go_wp2_with fail
      refine (new_any 16777216 w1).mono ?_
      rintro e w2 ⟨rfl, _, hb2⟩
      have HB2 : Hid (Below w.heap.size w w2) := Lib.hid (HB1.out.trans (hb2.mono HB1.out.size))
      clear hb2
      go_wp2_with fail
      refine (snew_arg _ hand w2 (.inl hneg)).mono ?_
      rintro e w3 ⟨rfl, rfl⟩
      go_wp2_with fail
      go_ret
      exact ⟨rfl, HB2.out⟩
    · have hneg' : decide (hand < 0) = false := decide_eq_false hneg
      by_cases hbig : 1099511627776 < hand
      · have hbig' : decide (1099511627776 < hand) = true := decide_eq_true hbig
        go_enter Try.func3, Try.ntmps3
        go_wp2_with fail
        refine HAW.out.mono ?_
        rintro e w1 ⟨rfl, hb1⟩
        have HB1 := Lib.hid hb1
        clear hb1
        go_wp2_with fail
        refine (new_any 16777216 w1).mono ?_
        rintro e w2 ⟨rfl, _, hb2⟩
        have HB2 : Hid (Below w.heap.size w w2) := Lib.hid (HB1.out.trans (hb2.mono HB1.out.size))
        clear hb2
        go_wp2_with fail
        refine (snew_arg _ hand w2 (.inr hbig)).mono ?_
        rintro e w3 ⟨rfl, rfl⟩
        go_wp2_with fail
        go_ret
        exact ⟨rfl, HB2.out⟩
      · have hbig' : decide (1099511627776 < hand) = false := decide_eq_false hbig
        obtain ⟨H, hH⟩ : ∃ H : Nat, hand = (H : Int) := ⟨hand.toNat, by omega⟩
        subst hH
        have hH40 : H ≤ 1099511627776 := by omega
        go_enter Try.func3, Try.ntmps3
        go_wp2_with fail
        refine HAW.out.mono ?_
        rintro e w1 ⟨rfl, hb1⟩
        have HB1 := Lib.hid hb1
        clear hb1
        go_wp2_with fail
        refine (new_any 16777216 w1).mono ?_
        rintro e w2 ⟨rfl, hd2, hb2⟩
        have HQ := Lib.hid (snew_any (w0 := w) (Chg.of_below HB1.out) (H : Int) 16777216 (by decide) hd2 hb2 (by omega) (by omega))
        clear hd2 hb2
        go_wp2_with fail
        refine HQ.out.mono ?_
        rintro e w3 ⟨lb, F3, rfl, h3⟩
        obtain ⟨cp, hcp⟩ : ∃ c : Nat, c = (min (max 16777216 0) 16777216 : Int).toNat := ⟨_, rfl⟩
        have hcp2 : cp = 16777216 := hcp
        rw [← hcp] at h3
        have H3 : Hid (TL w w3 F3 lb 3 H 0 cp [] (.slice none 0 0)) := Lib.hid ⟨⟨⟨noC, 0, h3, RelC.none, Nat.le_refl _⟩, fun p hp => (by cases hp)⟩, GRow.nil _, fun q hq => (by cases hq), fun q hq => (by cases hq)⟩
        clear h3 hcp
        go_wp2_with fail
        go_loopw [7, 8, 53] (fun at_ v i wr => ∃ (k hd n : Nat) (F : Nat → Prop) (ws : WL) (av : Option Addr) (cv : Nat), k ≤ N ∧ i = .int .i64 (k : Int) ∧ at_ = .int .i64 (hd : Int) ∧ v = .slice av ws.length cv ∧ n ≤ 3 + 602 * k ∧ hd ≤ H + 300 * k ∧ ws.length ≤ k ∧ Hid (TL w wr F lb n hd (60000 * k) cp ws v)) (fun _ _ i _ => N - (intOf i).toNat)
        case atStart => exact ⟨0, H, 3, F3, [], none, 0, Nat.zero_le _, rfl, rfl, rfl, Nat.le_refl _, Nat.le_refl _, Nat.zero_le _, H3⟩
        case round =>
          obtain ⟨k, hd, n, F, ws, av, cv, hk, rfl, rfl, rfl, hn, hhd, hwl, HT⟩ := hrel
          by_cases hlt : k < N
          · have hlt' : (k : Int) < (N : Int) := by omega
            obtain ⟨x, hx⟩ : ∃ x, os[k]? = some x := ⟨_, List.getElem?_eq_getElem (by rw [← HN.out]; exact hlt)⟩
            obtain ⟨⟨b, o, rfl, hat⟩, hd1, hd2⟩ := HCL.out wr HT.out.log.below k x hx
            obtain ⟨b0, b1, b2⟩ := hat
            obtain ⟨K, due, rc⟩ := x
            dsimp only at b0 b1 b2 hd1 hd2
            obtain ⟨Y, hY⟩ : ∃ Y, Y = wr.heap.size := ⟨_, rfl⟩
            obtain ⟨W1, hW1⟩ : ∃ W, W = wr.alloc (.cells #[.int .i64 K, .int .i64 due, .int .i64 rc] 31) := ⟨_, rfl⟩
            have hc1 : Chg (fun _ => False) wr W1 := hW1 ▸ Chg.alloc _ (Chg.refl _ _) _
            have hT1 := HT.out.new hc1
            have y0 : W1.cell? ⟨Y, 0, none⟩ = some (.int .i64 K) := by rw [hW1, hY]; simp
            have y1 : W1.cell? ⟨Y, 1, none⟩ = some (.int .i64 due) := by rw [hW1, hY]; simp
            have y2 : W1.cell? ⟨Y, 2, none⟩ = some (.int .i64 rc) := by rw [hW1, hY]; simp
            have hyA : Apart F W1 Y := HT.out.fresh (by omega) (by rw [hW1, World.size_alloc, hY]; omega)
            have HT1 := Lib.hid hT1
            have HYA := Lib.hid hyA
            have HW1 := Lib.hid hW1
            have HY := Lib.hid hY
            clear hx hc1 hT1 hyA hW1 hY hlt
            go_upto_region 15 with fail
            rw [← HW1.out, ← HY.out]
            go_upto_block 2 with fail
            go_cut [7, 8, 11, 12, 13, 15, 16, 17, 18, 19, 20, 21, 22] (fun at9 v9 _ _ _ _ _ _ _ _ _ _ _ wx => ∃ (hd9 n9 : Nat) (F9 : Nat → Prop) (ws9 : WL) (a9 : Option Addr) (c9 : Nat), at9 = .int .i64 (hd9 : Int) ∧ v9 = .slice a9 ws9.length c9 ∧ n9 ≤ 3 + 602 * (k + 1) ∧ hd9 ≤ H + 300 * (k + 1) ∧ ws9.length ≤ k + 1 ∧ Hid (TL w wx F9 lb n9 hd9 (60000 * (k + 1)) cp ws9 v9))
            case first =>
              by_cases e0 : K = 0
              · as_aux_lemma =>
                  subst e0
                  obtain ⟨Wt, hWt⟩ : ∃ t, t = wantE due rc hd := ⟨_, rfl⟩
                  have hP := HT1.out.put (by omega) due rc (by rw [hcp2]; omega)
                  have hcs := wantE_cases due rc hd
                  rw [← hWt] at hP hcs
                  have HP := Lib.hid hP
                  have HCS := Lib.hid hcs
                  clear hP hcs hWt
                  go_upto_block 3 with fail
                  go_cut [11] (fun x wx => x = .int .i64 Wt ∧ W1 = wx)
                  case first =>
                    rcases HCS.out with ⟨hbad, rfl⟩ | ⟨⟨p0, p1, p2, p3⟩, hle, rfl⟩ | ⟨⟨p0, p1, p2, p3⟩, hle, rfl⟩
                    · by_cases c0 : due < 0
                      · have d0 : decide (due < 0) = true := decide_eq_true c0
                        clear hbad
                        go_wp2_with fail
                        go_meet
                        exact ⟨rfl, rfl⟩
                      · have d0 : decide (due < 0) = false := decide_eq_false c0
                        by_cases c1 : 1099511627776 < due
                        · have d1 : decide (1099511627776 < due) = true := decide_eq_true c1
                          clear hbad
                          go_wp2_with fail
                          go_meet
                          exact ⟨rfl, rfl⟩
                        · have d1 : decide (1099511627776 < due) = false := decide_eq_false c1
                          by_cases c2 : rc < 0
                          · have d2 : decide (rc < 0) = true := decide_eq_true c2
                            clear hbad
                            go_wp2_with fail
                            go_meet
                            exact ⟨rfl, rfl⟩
                          · have d2 : decide (rc < 0) = false := decide_eq_false c2
                            have c3 : 1099511627776 < rc := by omega
                            have d3 : decide (1099511627776 < rc) = true := decide_eq_true c3
                            clear hbad
                            go_wp2_with fail
                            go_meet
                            exact ⟨rfl, rfl⟩
                    · have c0 : ¬ due < 0 := by omega
                      have c1 : ¬ 1099511627776 < due := by omega
                      have c2 : ¬ rc < 0 := by omega
                      have c3 : ¬ 1099511627776 < rc := by omega
                      have d0 : decide (due < 0) = false := decide_eq_false c0
                      have d1 : decide (1099511627776 < due) = false := decide_eq_false c1
                      have d2 : decide (rc < 0) = false := decide_eq_false c2
                      have d3 : decide (1099511627776 < rc) = false := decide_eq_false c3
                      have d4 : decide (due ≤ (hd : Int)) = true := decide_eq_true hle
                      go_wp2_with fail
                      go_meet
                      exact ⟨rfl, rfl⟩
                    · have c0 : ¬ due < 0 := by omega
                      have c1 : ¬ 1099511627776 < due := by omega
                      have c2 : ¬ rc < 0 := by omega
                      have c3 : ¬ 1099511627776 < rc := by omega
                      have c4 : ¬ due ≤ (hd : Int) := by omega
                      have d0 : decide (due < 0) = false := decide_eq_false c0
                      have d1 : decide (1099511627776 < due) = false := decide_eq_false c1
                      have d2 : decide (rc < 0) = false := decide_eq_false c2
                      have d3 : decide (1099511627776 < rc) = false := decide_eq_false c3
                      have d4 : decide (due ≤ (hd : Int)) = false := decide_eq_false c4
                      go_wp2_with fail
                      go_meet
                      exact ⟨rfl, rfl⟩
                  case rest =>
                    obtain ⟨rfl, rfl⟩ := hcut
                    go_wp2_with fail
                    refine HP.out.mono ?_
                    rintro e w4 ⟨rfl, hcase⟩
                    rcases hcase with ⟨hne, rfl⟩ | ⟨hz, q0, q1, F4, hJ, ht⟩
                    · have z1 : (Wt == 0) = false := by simp [hne]
                      have z2 : (Wt != Wt) = false := by simp
                      have HF := Lib.hid (HT1.out.more (m := 3 + 602 * (k + 1)) (Q := 60000 * (k + 1)) (by omega) (by omega))
                      clear hne
                      go_wp2_with fail
                      go_meet
                      exact ⟨hd, _, F, ws, av, cv, rfl, rfl, Nat.le_refl _, by omega, by omega, HF⟩
                    · subst hz
                      obtain ⟨d, rfl⟩ : ∃ d : Nat, due = (d : Int) := ⟨due.toNat, by omega⟩
                      obtain ⟨r, rfl⟩ : ∃ d : Nat, rc = (d : Int) := ⟨rc.toNat, by omega⟩
                      rw [Int.toNat_natCast, Int.toNat_natCast] at hJ
                      have y0 := ht.chg.cell y0 HYA.out.out
                      have y1 := ht.chg.cell y1 HYA.out.out
                      have y2 := ht.chg.cell y2 HYA.out.out
                      obtain ⟨v5, w5, hrun, hT5⟩ := HT1.out.note (by omega) hJ ht 22
                      obtain ⟨a5, c5, hv5⟩ := hT5.row.len layO
                      have hl5 : (ws ++ [(d, r)]).length = ws.length + 1 := by rw [List.length_append]; rfl
                      obtain ⟨ws5, hws5⟩ : ∃ l, l = ws ++ [(d, r)] := ⟨_, rfl⟩
                      rw [← hws5] at hT5 hv5 hl5
                      subst hv5
                      have HRUN := Lib.hid hrun
                      have HF := Lib.hid (hT5.more (m := 3 + 602 * (k + 1)) (Q := 60000 * (k + 1)) (by omega) (by omega))
                      have HL5 := Lib.hid hl5
                      clear hJ ht hrun hT5 hws5 hl5 q0 q1
                      go_wp2_with (at_builtin; refine Lib.wpList_append_run _ rfl _ _ _ _ rfl _ _ rfl rfl _ _ HRUN.out ?_)
                      go_wp2_with fail
                      go_meet
                      exact ⟨hd, _, F4, ws5, a5, c5, rfl, rfl, Nat.le_refl _, by omega, by rw [HL5.out]; omega, HF⟩
              · by_cases e1 : K = 1
                · as_aux_lemma =>
                    subst e1
                    have q0 : ((1 : Int) == 0) = false := by decide
                    have e300 : IntKind.i64.wrap ((hd : Int) + 300) = (hd : Int) + 300 := IntWalk.i64_in _ (by omega)
                    have HTB1 : Hid (TB w W1 F lb n hd (60000 * k) cp ws (.slice av ws.length cv) Y due) := Lib.hid ⟨HT1.out, y1, HYA.out⟩
                    by_cases hbg : (hd : Int) + 300 < due
                    · have hbg' : decide ((hd : Int) + 300 < due) = true := decide_eq_true hbg
                      have HB := Lib.hid HT1.out.log.below
                      go_wp2_with fail
                      go_ret
                      exact ⟨rfl, HB.out⟩
                    · have hbg' : decide ((hd : Int) + 300 < due) = false := decide_eq_false hbg
                      clear y0 y2
                      go_wp2_with fail
                      go_loopw [7, 8] (fun x v wi => ∃ (h2 n2 : Nat) (F2 : Nat → Prop) (ws2 : WL) (a2 : Option Addr) (c2 : Nat), hd ≤ h2 ∧ h2 ≤ hd + 300 ∧ x = .int .i64 (h2 : Int) ∧ v = .slice a2 ws2.length c2 ∧ ws2.length ≤ k ∧ n2 ≤ n + 2 * (h2 - hd) ∧ Hid (TB w wi F2 lb n2 h2 (60000 * k + 200 * (h2 - hd)) cp ws2 v Y due)) (fun x _ _ => (due - intOf x).toNat)
                      case atStart => exact ⟨hd, n, F, ws, av, cv, Nat.le_refl _, by omega, rfl, rfl, hwl, by omega, Lib.hid (by rw [Nat.sub_self]; exact HTB1.out)⟩
                      case round =>
                        obtain ⟨h2, n2, F2, ws2, a2, c2, hh2a, hh2b, rfl, rfl, hwl2, hn2, HTB⟩ := hrel
                        have y1 := HTB.out.box
                        by_cases hc : (h2 : Int) < due
                        · have hc' : decide ((h2 : Int) < due) = true := decide_eq_true hc
                          obtain ⟨X, hX⟩ : ∃ X : Nat, X = h2 + 1 := ⟨_, rfl⟩
                          obtain ⟨XI, hXI⟩ : ∃ X : Int, X = ((h2 + 1 : Nat) : Int) := ⟨_, rfl⟩
                          have eX : IntKind.i64.wrap ((h2 : Int) + 1) = XI := by rw [hXI, IntWalk.i64_in _ (by omega)]; omega
                          obtain ⟨wn, hwn⟩ : ∃ m, m = ws2.length := ⟨_, rfl⟩
                          have HX := Lib.hid hX
                          have HXI := Lib.hid hXI
                          have HWN := Lib.hid hwn
                          rw [← hwn] at HTB hwl2 ⊢
                          obtain ⟨DM, hDM⟩ : ∃ D : Nat, D = (due - (h2 : Int)).toNat := ⟨_, rfl⟩
                          have HDM := Lib.hid hDM
                          have HMS : Hid ((due - XI).toNat < (due - (h2 : Int)).toNat) := Lib.hid (by omega)
                          have HP0 := Lib.hid (P3.start wr wr (Below.refl _ _) ws2 X)
                          clear hX hXI hwn hDM
                          go_wp2_with fail
                          go_loopw [12, 13, 114] (fun v12 v13 i wj => ∃ (j l12 l13 : Nat) (a12 a13 : Option Addr) (c12 c13 : Nat), j ≤ wn ∧ i = .int .i64 (j : Int) ∧ v12 = .slice a12 l12 c12 ∧ v13 = .slice a13 l13 c13 ∧ Hid (P3 wr wj ws2 X j v12 v13)) (fun _ _ i _ => wn - (intOf i).toNat)
                          case atStart => exact ⟨0, 0, 0, none, none, 0, 0, Nat.zero_le _, rfl, rfl, rfl, HP0⟩
                          case round =>
                            rename_i wh
                            obtain ⟨j, l12, l13, a12, a13, c12, c13, hj, rfl, rfl, rfl, HP3⟩ := hrel
                            by_cases hjl : j < wn
                            · as_aux_lemma =>
                                have hjl' : (j : Int) < (wn : Int) := by omega
                                obtain ⟨p, hp⟩ : ∃ p, ws2[j]? = some p := ⟨_, List.getElem?_eq_getElem (by rw [← HWN.out]; exact hjl)⟩
                                obtain ⟨q, rfl, w0c, w1c, w2c⟩ := wrow_at (HTB.out.tl.row.new (Chg.of_below HP3.out.bel)) hp
                                obtain ⟨Z, hZ⟩ : ∃ Z, Z = wr.heap.size := ⟨_, rfl⟩
                                obtain ⟨W3, hW3⟩ : ∃ W, W = wr.alloc (.cells #[.int .i64 0, .int .i64 (p.1 : Nat), .int .i64 (p.2 : Nat)] 31) := ⟨_, rfl⟩
                                have hb3 : Below wr.heap.size wr W3 := hW3 ▸ (Below.refl _ _).alloc (Nat.le_refl _) _
                                have z0 : W3.cell? ⟨Z, 0, none⟩ = some (.int .i64 0) := by rw [hW3, hZ]; simp
                                have z1 : W3.cell? ⟨Z, 1, none⟩ = some (.int .i64 (p.1 : Nat)) := by rw [hW3, hZ]; simp
                                have z2 : W3.cell? ⟨Z, 2, none⟩ = some (.int .i64 (p.2 : Nat)) := by rw [hW3, hZ]; simp
                                have HW3 := Lib.hid hW3
                                have HZ := Lib.hid hZ
                                have hl2 : ws2.length ≤ 1000 := by rw [← HWN.out]; omega
                                by_cases hpx : p.1 = X
                                · obtain ⟨v', w5, hrun, hP5⟩ := HP3.out.want hl2 hp hpx hb3 33
                                  obtain ⟨a', c', hv'⟩ := hP5.r12.len layI
                                  obtain ⟨l', hl'⟩ : ∃ l : Nat, l = ((comeL (ws2.take (j + 1)) X).map (·.2)).length := ⟨_, rfl⟩
                                  rw [← hl'] at hv'
                                  subst hv'
                                  have g1 : ((p.1 : Int) == XI) = true := by rw [HXI.out, hpx, HX.out]; simp
                                  have HRUN := Lib.hid hrun
                                  have HP5 := Lib.hid hP5
                                  obtain ⟨pd, pr⟩ := p
                                  dsimp only at w1c w2c z1 z2 g1 HW3 HRUN hpx
                                  clear hp hW3 hZ hb3 hl2 hpx hrun hP5 hl' hjl
                                  go_upto_region 36 with fail
                                  rw [← HW3.out, ← HZ.out]
                                  go_wp2_with (at_builtin; refine Lib.wpList_append_run _ rfl _ _ _ _ rfl _ _ rfl rfl _ _ HRUN.out ?_)
                                  go_wp2_with fail
                                  exact ⟨⟨j + 1, l', l13, a', a13, c', c13, by omega, by go_num, rfl, rfl, HP5⟩, by simp [intOf]; omega⟩
                                · obtain ⟨v', w5, hrun, hP5⟩ := HP3.out.left hl2 hp hpx hb3 22
                                  obtain ⟨a', c', hv'⟩ := hP5.r13.len layO
                                  obtain ⟨l', hl'⟩ : ∃ l : Nat, l = (restL (ws2.take (j + 1)) X).length := ⟨_, rfl⟩
                                  rw [← hl'] at hv'
                                  subst hv'
                                  have g1 : ((p.1 : Int) == XI) = false := by
                                    have h1 := HXI.out
                                    have h2 := HX.out
                                    simp
                                    omega
                                  have HRUN := Lib.hid hrun
                                  have HP5 := Lib.hid hP5
                                  obtain ⟨pd, pr⟩ := p
                                  dsimp only at w1c w2c z1 z2 g1 HW3 HRUN hpx
                                  clear hp hW3 hZ hb3 hl2 hpx hrun hP5 hl' hjl
                                  go_upto_region 36 with fail
                                  rw [← HW3.out, ← HZ.out]
                                  go_wp2_with (at_builtin; refine Lib.wpList_append_run _ rfl _ _ _ _ rfl _ _ rfl rfl _ _ HRUN.out ?_)
                                  go_wp2_with fail
                                  exact ⟨⟨j + 1, l12, l', a12, a', c12, c', by omega, by go_num, rfl, rfl, HP5⟩, by simp [intOf]; omega⟩
                            · obtain rfl : wn = j := by omega
                              have hP := HP3.out
                              rw [HWN.out] at hP
                              obtain ⟨r12, r13⟩ := hP.end_
                              have hlen : (comeL ws2 X).length ≤ ws2.length := List.length_filter_le _ _
                              have hrl := rest_len ws2 X
                              have e12 : l12 = (comeL ws2 X).length := by
                                obtain ⟨_, _, e⟩ := r12.len layI
                                injection e with _ e _
                                rw [List.length_map] at e
                                exact e
                              have e13 : l13 = (restL ws2 X).length := by
                                obtain ⟨_, _, e⟩ := r13.len layO
                                injection e with _ e _
                              subst e12 e13
                              have o12 := hP.o12
                              have o13 := hP.o13
                              rw [HX.out] at r12 r13 hlen hrl o12 o13
                              have hNX := HTB.out.next hP.bel r12 r13 o12 o13 (by omega) hc (by omega) (by rw [hcp2, ← HWN.out]; omega)
                              have y1 := keep4 hP.bel y1
                              have HNX := Lib.hid hNX
                              have HLE := Lib.hid hlen
                              have HRL := Lib.hid hrl
                              rw [HX.out]
                              clear hP r12 r13 hlen hrl hNX o12 o13
                              go_wp2_with fail
                              refine HNX.out.mono ?_
                              rintro e w6 ⟨vg, F6, l, rfl, hTB6, hI6, hT6⟩
                              obtain ⟨ag, cg, hvg⟩ := hT6.row.len layM
                              rw [hT6.len] at hvg
                              obtain ⟨cs, hcs⟩ : ∃ cs, cs = comeL ws2 (h2 + 1) := ⟨_, rfl⟩
                              obtain ⟨ws3, hws3⟩ : ∃ cs, cs = restL ws2 (h2 + 1) := ⟨_, rfl⟩
                              obtain ⟨cn, hcn⟩ : ∃ cn, cn = cs.length := ⟨_, rfl⟩
                              rw [← hcs, ← hcn] at hvg
                              subst hvg
                              have hat4 : ∀ j p, cs[j]? = some p → ∃ q q2 ps, ag = some ⟨q, 0, none⟩ ∧ a12 = some ⟨q2, 0, none⟩ ∧ w6.cell? ⟨q, j * 4, none⟩ = some (.int .i64 ((h2 + 1 : Nat) : Int)) ∧ w6.cell? ⟨q, j * 4 + 1, none⟩ = some (.int .i64 (p.2 : Nat)) ∧ w6.cell? ⟨q, j * 4 + 3, none⟩ = some (.int .i64 (ps : Nat)) ∧ 1 ≤ ps ∧ w6.cell? ⟨q2, j, none⟩ = some (.int .i64 (p.2 : Nat)) := fun j p hp => by
                                rw [hcs] at hp
                                obtain ⟨q, ps, e1, k0, k1, k3, hps, _⟩ := hT6.at_ hp
                                obtain ⟨q2, e2, k5⟩ := irow_at hI6 (j := j) (r := p.2) (by rw [List.getElem?_map, hp]; rfl)
                                exact ⟨q, q2, ps, e1, e2, k0, k1, k3, hps, k5⟩
                              have hTBm := hTB6.more (m := n + 2 * (h2 + 1 - hd)) (Q := 60000 * k + 200 * (h2 + 1 - hd)) (by omega) (by rw [← HWN.out]; omega)
                              rw [← hws3] at hTBm
                              have HTB6 := Lib.hid hTBm
                              have HAT := Lib.hid hat4
                              have HCN := Lib.hid hcn
                              have HCN2 : Hid (cn = (comeL ws2 (h2 + 1)).length) := Lib.hid (by rw [hcn, hcs])
                              have HW3L : Hid (ws3.length ≤ k) := Lib.hid (by rw [hws3]; have := HRL.out; rw [← HWN.out] at this; omega)
                              rw [← hws3, ← hcs, ← hcn]
                              clear hTB6 hI6 hT6 hat4 hTBm hcs hws3 hcn HNX
                              go_wp2_with fail
                              go_loopw [156] (fun i wq => ∃ (j dn : Nat), j ≤ cn ∧ i = .int .i64 (j : Int) ∧ wq = w6.drewN dn) (fun i _ => cn - (intOf i).toNat)
                              case atStart => exact ⟨0, 0, Nat.zero_le _, rfl, rfl⟩
                              case round =>
                                obtain ⟨j, dn, hj, rfl, rfl⟩ := hrel
                                by_cases hjl : j < cn
                                · as_aux_lemma =>
                                    have hjl' : (j : Int) < (cn : Int) := by omega
                                    obtain ⟨p, hp⟩ : ∃ p, cs[j]? = some p := ⟨_, List.getElem?_eq_getElem (by rw [← HCN.out]; exact hjl)⟩
                                    obtain ⟨q, q2, ps, rfl, rfl, k0, k1, k3, hps, k5⟩ := HAT.out j p hp
                                    rw [← HXI.out] at k0
                                    obtain ⟨R, hR⟩ : ∃ R : Int, R = ((p.2 : Nat) : Int) := ⟨_, rfl⟩
                                    rw [← hR] at k1 k5
                                    have g1 : (R != R) = false := by simp
                                    have g2 : (XI != XI) = false := by simp
                                    have g3 : ¬ (ps : Int) < 1 := by omega
                                    have g4 : decide ((ps : Int) < 1) = false := decide_eq_false g3
                                    have hcn2 : cn ≤ 1000 := by have := HLE.out; rw [← HWN.out] at this; have := HCN2.out; omega
                                    clear hp hR hjl hps
                                    go_upto_region 47 with fail
                                    go_cut [185] (fun v wx => v = .bool false ∧ ∃ d, wx = w6.drewN d)
                                    case first =>
                                      as_aux_lemma =>
                                        go_quiet (fail)
                                        go_wp2_with fail
                                        go_meet
                                        first | exact ⟨rfl, _, rfl⟩ | exact ⟨rfl, _, drewN_add _ _ _⟩
                                    case rest =>
                                      obtain ⟨rfl, d, rfl⟩ := hcut
                                      clear k0 k1 k3 k5 g1 g2 g3 g4
                                      go_wp2_with fail
                                      exact ⟨⟨j + 1, _, by omega, by go_num, by first | rfl | exact drewN_add _ _ _⟩, by simp [intOf]; omega⟩
                                · obtain rfl : cn = j := by omega
                                  have HE := Lib.hid (HTB6.out.new (below_drewN (Below.refl _ w6) dn))
                                  go_wp2_with fail
                                  exact ⟨⟨h2 + 1, n + 2 * (h2 + 1 - hd), F6, ws3, a13, c13, by omega, by omega, by rw [HXI.out], rfl, HW3L.out, Nat.le_refl _, HE⟩, by simp only [intOf]; exact HMS.out⟩
                        · as_aux_lemma =>
                            have hc' : decide ((h2 : Int) < due) = false := decide_eq_false hc
                            have HOF := Lib.hid (HTB.out.tl.log.off due (by omega) (by omega))
                            have hfin : ∀ W, Below wr.heap.size wr W → TL w W F2 lb (3 + 602 * (k + 1)) h2 (60000 * (k + 1)) cp ws2 (.slice a2 ws2.length c2) := fun W hW => (HTB.out.tl.new (Chg.of_below hW)).more (by omega) (by omega)
                            have HFI := Lib.hid hfin
                            clear hfin
                            go_wp2_with fail
                            refine HOF.out.mono ?_
                            rintro e w6 ⟨rfl, hb6⟩
                            have HF := Lib.hid (HFI.out w6 hb6)
                            clear hb6
                            go_wp2_with fail
                            go_meet
                            exact ⟨h2, _, F2, ws2, a2, c2, rfl, rfl, Nat.le_refl _, by omega, by omega, HF⟩
                · as_aux_lemma =>
                    have q0 : (K == 0) = false := by simp [e0]
                    have q1 : (K == 1) = false := by simp [e1]
                    have HF := Lib.hid (HT1.out.more (m := 3 + 602 * (k + 1)) (Q := 60000 * (k + 1)) (by omega) (by omega))
                    go_wp2_with fail
                    go_meet
                    exact ⟨hd, _, F, ws, av, cv, rfl, rfl, Nat.le_refl _, by omega, by omega, HF⟩
            case rest =>
              obtain ⟨hd9, n9, F9, ws9, a9, c9, rfl, rfl, hn9, hhd9, hwl9, HT9⟩ := hcut
              have HWT := Lib.hid HT9.out.log.waits
              clear y0 y1 y2 b0 b1 b2
              go_wp2_with fail
              refine HWT.out.mono ?_
              rintro e w7 ⟨rfl, hb7⟩
              have HT7 : Hid (TL w w7 F9 lb n9 hd9 (60000 * (k + 1)) cp ws9 (.slice a9 ws9.length c9)) := Lib.hid (HT9.out.new (Chg.of_below hb7))
              have HHD := Lib.hid HT7.out.log.hand
              clear hb7
              go_wp2_with fail
              refine HHD.out.mono ?_
              rintro e w8 ⟨rfl, rfl⟩
              go_wp2_with fail
              exact ⟨⟨k + 1, hd9, n9, F9, ws9, a9, c9, by omega, by go_num, rfl, rfl, hn9, hhd9, hwl9, HT7⟩, by simp [intOf]; omega⟩
          · obtain rfl : N = k := by omega
            have HB := Lib.hid HT.out.log.below
            clear HT
            go_wp2_with fail
            go_ret
            exact ⟨rfl, HB.out⟩
end Go.Proofs.Ytkmmbpdiljgkgaa
