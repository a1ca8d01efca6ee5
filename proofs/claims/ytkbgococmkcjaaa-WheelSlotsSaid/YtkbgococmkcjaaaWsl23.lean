/- A part. -/
import Derived.Test.YtkbgococmkcjaaaWsl8
import Derived.Test.YtkbgococmkcjaaaWsl22
set_option linter.unusedVariables false
set_option linter.unusedSimpArgs false
namespace Go.Proofs.Ytkbgococmkcjaaa
open Go.RowKit Go.Deep
attribute [local go_sem] fr_opt
def oF : ByteArray := ⟨#[119, 45, 111, 108, 100]⟩
def xF : ByteArray := ⟨#[120]⟩
def two1 : St := createS (newSt 1000) oF
def two2 : St := createS two1 xF
def two3 : St := wBegS two2 (wNames wH two2)
theorem two_facts : createE (newSt 1000) oF = 0 ∧ Ease 1 two1 ∧ createE two1 xF = 0 ∧ Ease 2 two2 ∧ two2.fs = [(oF, emptyF), (xF, emptyF)] ∧ two2.size = 0 ∧ two2.cap = 1000 := by
  obtain ⟨a1, a2, a3⟩ := ease_createF (Ease.new 1000) (nm := oF) rfl
  have f1 : two1.find xF = none := by unfold two1; rw [a2]; decide
  obtain ⟨b1, b2, b3⟩ := ease_createF a3 f1
  refine ⟨a1, a3, b1, b3, ?_, ?_, ?_⟩
  · unfold two2; rw [show createS two1 xF = _ from b2, a2]; rfl
  · unfold two2; rw [show createS two1 xF = _ from b2, a2]; rfl
  · unfold two2; rw [show createS two1 xF = _ from b2, a2]; rfl
theorem two_names : wNames wH two2 = [oF] := by
  refine wNames_sorted ?_ (List.pairwise_singleton _ _)
  rw [two_facts.2.2.2.2.1]
  have : ([(oF, emptyF), (xF, emptyF)].map (·.1)).filter (fun nm => Lib.hasPrefix nm.data.toList wH.data.toList) = [oF] := by decide
  rw [this]
theorem three_facts : wBegE two2 (wNames wH two2) = 0 ∧ Ease 4 two3 ∧ WMade two2 two3 (wNames wH two2) := by
  obtain ⟨_, _, _, h, _, hs, hc⟩ := two_facts
  exact wmade h (by rw [hs, hc]; decide)
theorem three_fs : ∃ f, two3.fs = [(xF, emptyF), (wS, f)] := by
  obtain ⟨f, hf⟩ := three_facts.2.2.fs
  refine ⟨f, ?_⟩
  rw [hf, two_names]
  have : (deleteAll two2 [oF]).fs = [(xF, emptyF)] := by
    show dropF two2.fs oF = _
    rw [two_facts.2.2.2.2.1]
    unfold dropF
    rw [List.filter_cons, if_neg (by decide), List.filter_cons, if_pos (by decide), List.filter_nil]
  rw [this]
  rfl
theorem three_names : wNames ⟨#[]⟩ two3 = [wS, xF] := by
  obtain ⟨f, hf⟩ := three_fs
  refine wNames_sorted ?_ (by decide)
  rw [hf]
  have : ([(xF, emptyF), (wS, f)].map (·.1)).filter (fun nm => Lib.hasPrefix nm.data.toList (⟨#[]⟩ : ByteArray).data.toList) = [xF, wS] := by
    show ([xF, wS] : List ByteArray).filter _ = _
    decide
  rw [this]
  exact List.Perm.swap _ _ _
theorem madeW : madeCells #[.int .i64 0] 16 = (wZero.map wNum).toArray := by
  apply Array.ext
  · simp [madeCells, wZero]
  · intro i h1 h2
    simp [madeCells, wZero, wNum, Nat.mod_one]
    refine (List.eq_of_mem_replicate (n := 16) (a := Value.int IntKind.i64 0) ?_).symm
    exact List.getElem_mem _
theorem makeW : ∃ Z, Z = (wZero.map wNum).toArray ∧ ∀ W : World, (Instr.makeSlice 34 (.int .i64 16) (.int .i64 16)).run Try.prog W = .ok (.slice (some ⟨W.heap.size, 0, none⟩) 16 16) (W.alloc (.cells Z 3)) :=
  ⟨madeCells #[.int .i64 0] 16, madeW, fun W => run_make_row' (P := Try.prog) 34 3 (.int .i64 0) 8 Try.underlying34 (by kernel_rfl) rfl .i64 .i64 16 (by decide) (by decide) W⟩
structure Want (w : World) (B : Nat) (L : List Nat) : Prop where
  heap : w.heap[B]? = some (.cells (L.map wNum).toArray 3 (0, 0))
  len : L.length = 16
theorem Want.lt {w : World} {B : Nat} {L : List Nat} (h : Want w B L) : B < w.heap.size := (Array.getElem?_eq_some_iff.1 h.heap).1
theorem Want.cell {w : World} {B : Nat} {L : List Nat} (h : Want w B L) {j : Nat} (hj : j < 16) : w.cell? ⟨B, j, none⟩ = some (.int .i64 (L.getD j 0 : Nat)) := by
  have hl := h.len
  simp only [World.cell?, h.heap]
  have : ((L.map wNum).toArray)[j]? = some (.int .i64 (L.getD j 0 : Nat)) := by
    rw [List.getElem?_toArray, List.getElem?_map, List.getD_eq_getElem?_getD, List.getElem?_eq_getElem (by omega)]
    rfl
  simpa using this
theorem Want.free {w : World} {B : Nat} {L : List Nat} (h : Want w B L) (j : Nat) : w.frozen? ⟨B, j, none⟩ = false := by
  simp [World.frozen?, h.heap]
theorem Want.chg {w w' : World} {S : Nat → Prop} {B : Nat} {L : List Nat} (h : Want w B L) (hc : Chg S w w') (hB : ¬ S B) : Want w' B L := ⟨hc.heap h.heap hB, h.len⟩
theorem Want.set {w : World} {B : Nat} {L : List Nat} (h : Want w B L) (i x : Nat) : Want (w.setCell ⟨B, i, none⟩ (.int .i64 (x : Nat))) B (L.set i x) := by
  refine ⟨?_, by rw [List.length_set]; exact h.len⟩
  have := heap_setCell_same w B i _ _ (.int .i64 (x : Nat)) h.heap
  rw [this]
  congr 2
  apply Array.toList_inj.1
  simp [List.map_set, wNum]
theorem Want.ints {w : World} {B : Nat} {L : List Nat} (h : Want w B L) : Ints w (.slice (some ⟨B, 0, none⟩) 16 16) (L.map fun x => ((x : Nat) : Int)) := by
  refine ⟨_, _, by rw [List.length_map, h.len], .inr ⟨B, 0, rfl, fun i hi => ?_⟩⟩
  rw [List.length_map, h.len] at hi
  rw [Nat.zero_add, h.cell hi]
  congr 2
  rw [List.getD_eq_getElem?_getD, List.getD_eq_getElem?_getD, List.getElem?_map, List.getElem?_eq_getElem (by rw [h.len]; exact hi)]
  rfl
end Go.Proofs.Ytkbgococmkcjaaa
namespace Go.Proofs.Ytkbgococmkcjaaa
open Go.RowKit Go.Deep
attribute [local go_sem] fr_opt
structure SlJ (w0 w : World) (wb B : Nat) (d : Nat) (n : Nat) (L : List Nat) : Prop where
  wh : ∃ g st, g.d = d ∧ WhI w0 w wb g st n 0 L ∧ B ∉ g.fp
  want : Want w B L
  ne : B ≠ wb
theorem SlJ.chg {w0 w w' : World} {S : Nat → Prop} {wb B d n : Nat} {L : List Nat} (h : SlJ w0 w wb B d n L) (hc : Chg (fun _ => False) w w') : SlJ w0 w' wb B d n L := by
  obtain ⟨⟨g, st, hd, hw, hB⟩, hw2, hne⟩ := h
  exact ⟨⟨g, st, hd, hw.new hc, hB⟩, hw2.chg hc (fun x => x), hne⟩
theorem SlJ.below {w0 w : World} {wb B d n : Nat} {L : List Nat} (h : SlJ w0 w wb B d n L) : Below w0.heap.size w0 w := by
  obtain ⟨⟨g, st, hd, hw, hB⟩, _, _⟩ := h
  exact hw.below
theorem SlJ.set {w0 wr w : World} {wb B d n : Nat} {L : List Nat} (h : SlJ w0 wr wb B d n L) (hc : Chg (fun _ => False) wr w) (hn : n ≤ 900000) (slot x : Int) (X : Nat) (hXs : wr.heap.size ≤ X) (c0 c1 : Value) (hX : w.cell? ⟨X, 0, none⟩ = some c0 ∧ w.cell? ⟨X, 1, none⟩ = some c1) :
    Calls Try.prog 13 #[.pointer (some ⟨wb, 0, none⟩), .int .i64 slot, .int .i64 x] w fun e w' => e = .returned (.int .i64 (wSetE slot x)) ∧ (∃ g st, g.d = d ∧ WhI w0 w' wb g st (n + 1) 0 (wSetL L slot x) ∧ B ∉ g.fp) ∧ Want w' B L ∧ w'.cell? ⟨X, 0, none⟩ = some c0 ∧ w'.cell? ⟨X, 1, none⟩ = some c1 := by
  obtain ⟨⟨g, st, hd, hw, hB⟩, hw2, hne⟩ := h
  have hXg : X ∉ g.fp := fun hx => by have := hw.disk.lt _ hx; omega
  refine (wset_any (hw.new hc) hn slot x).mono ?_
  rintro e w' ⟨he, g', st', hw', ht, _, _, _⟩
  refine ⟨he, ⟨g', st', by rw [ht.d, hd], hw', fun hx => ?_⟩, (hw2.chg hc (fun x => x)).chg ht.chg hB, ht.chg.cell hX.1 hXg, ht.chg.cell hX.2 hXg⟩
  rcases ht.fp _ hx with a | a
  · exact hB a
  · have := (hw2.chg hc (fun x => x)).lt; omega
theorem SlJ.stored {w0 w : World} {wb B d n : Nat} {L : List Nat} {i x : Nat} (h : ∃ g st, g.d = d ∧ WhI w0 w wb g st n 0 (L.set i x) ∧ B ∉ g.fp) (hw : Want w B L) (hne : B ≠ wb) (hB : w0.heap.size ≤ B) : SlJ w0 (w.setCell ⟨B, i, none⟩ (.int .i64 (x : Nat))) wb B d n (L.set i x) := by
  obtain ⟨g, st, hd, hi, ho⟩ := h
  have hset : Chg (fun q => q = B) w (w.setCell ⟨B, i, none⟩ (.int .i64 (x : Nat))) := Chg.setCell (S := fun q => q = B) (p := ⟨B, i, none⟩) (Chg.refl _ _) (fun _ => rfl) _
  exact ⟨⟨g, st, hd, hi.chgd hset (fun hx => hne hx.symm) (fun q hq hx => ho (hx ▸ hq)) (fun q hq hx => by omega), ho⟩, hw.set i x, hne⟩
theorem wall_bytes {w0 w : World} {wb : Nat} {g : Gh} {st : St} {n : Nat} {hd : Int} {L : List Nat} (h : WhI w0 w wb g st n hd L) : allE st wS = (wbytes L, 0) := by
  obtain ⟨f, hf, hfb⟩ := h.file
  unfold allE
  rw [if_neg (by rw [h.ease.down]; simp), hf]
  simp only [hfb]
set_option maxHeartbeats 8000000 in
set_option maxRecDepth 100000 in
theorem walk_WheelSlots (v : Value) (os : List (Int × Int)) (ask : Int) (w : World) (hv : Prs .i64 w v os) (hm : os.length ≤ maxLen) (hf : ∀ x ∈ os, (Lit.int .i64 x.1).wf = true ∧ (Lit.int .i64 x.2).wf = true) (hask : (Lit.int .i64 ask).wf = true) :
    Calls Try.prog 3 #[v, .int .i64 ask] w fun e w' => e = .returned (.bool true) ∧ Below w.heap.size w w' := by
  obtain ⟨a, cap, rfl⟩ := hv.form
  have HAW := Lib.hid (wawake_any w)
  have hcl : ∀ W, Below w.heap.size w W → ∀ k, k < os.length → ∃ b o, a = some ⟨b, o, none⟩ ∧ PrAt .i64 W b (o + k * 2) (os.getD k (0, 0)) := fun W hb k hk => (hv.below hb).at_ hk
  obtain ⟨N, hN⟩ : ∃ N, N = os.length := ⟨_, rfl⟩
  have HCL := Lib.hid hcl
  have HN := Lib.hid hN
  rw [← hN]
  clear hcl hN hv hf hm
  by_cases h60 : 100 < N
  · have h60' : (100 : Int) < (N : Int) := by omega
    clear h60
    go_enter Try.func3, Try.ntmps3
    go_wp2_with fail
    refine HAW.out.mono ?_
    rintro e w1 ⟨rfl, hb1⟩
    have HB1 := Lib.hid hb1
    clear hb1
    go_wp2_with fail
    go_ret
    exact ⟨rfl, HB1.out⟩
  · have h60' : ¬ (100 : Int) < (N : Int) := by omega
    have hN60 : N ≤ 100 := by omega
    clear h60
    obtain ⟨t1, t2, t3, t4, t5, t6, t7⟩ := two_facts
    have T := Lib.hid two_facts
    obtain ⟨Z, hZ, hmk⟩ := makeW
    have HZ := Lib.hid hZ
    clear t1 t2 t3 t4 t5 t6 t7 hZ
    go_enter Try.func3, Try.ntmps3
    go_wp2_with fail
    refine HAW.out.mono ?_
    rintro e w1 ⟨rfl, hb1⟩
    have HB1 := Lib.hid hb1
    clear hb1
    go_wp2_with fail
    refine (new_any 1000 w1).mono ?_
    rintro e w2 ⟨rfl, hd2, hb2⟩
    obtain ⟨D, hD⟩ : ∃ D, D = w1.heap.size := ⟨_, rfl⟩
    rw [← hD] at hd2 ⊢
    have HDL : Hid (w.heap.size ≤ D) := Lib.hid (by rw [hD]; exact HB1.out.size)
    have HB2 : Hid (Below w.heap.size w w2) := Lib.hid (HB1.out.trans (hb2.mono HB1.out.size))
    clear hD hb2
    have hC1 := create_any ⟨D, none, []⟩ (newSt 1000) oF w2 hd2 (by decide) (Good.new 1000).fuse (by decide)
    rw [T.out.1] at hC1
    have HC1 := Lib.hid hC1
    clear hC1 hd2
    go_wp2_with fail
    refine HC1.out.mono ?_
    rintro e w3 ⟨rfl, g3, hd3, ht3⟩
    have hC2 := create_any g3 two1 xF w3 hd3 (by decide) T.out.2.1.good.fuse (by have := T.out.2.1.good.len; omega)
    have hg3 : g3.d = D := ht3.d
    rw [T.out.2.2.1, hg3] at hC2
    have HC2 := Lib.hid hC2
    have HT3 := Lib.hid ht3
    clear hC2 hd3 ht3
    go_wp2_with fail
    refine HC2.out.mono ?_
    rintro e w4 ⟨rfl, g4, hd4, ht4⟩
    have hd4 : DiskAt w4 g4 two2 := hd4
    have hT4 := HT3.out.trans ht4
    have hg4 : g4.d = D := hT4.d
    have hlow4 : ∀ k ∈ g4.fp, w.heap.size ≤ k := fun k hk => by
      rcases hT4.fp k hk with x | x
      · simp [Gh.fp] at x; rw [x]; exact HDL.out
      · have := HB2.out.size; omega
    have hC4 : Chg (fun _ => False) w w4 := (Chg.of_below HB2.out : Chg (fun _ => False) w w2).trans hT4.chg (fun i hi hx => by simp [Gh.fp] at hx; have := HDL.out; omega)
    have hQ := wnew_ease (w0 := w) (g := g4) (hand := 0) hd4 hC4 hlow4 T.out.2.2.2.1 (by decide) (by rw [T.out.2.2.2.2.2.1, T.out.2.2.2.2.2.2]; decide) (fun p hp => by
      rw [T.out.2.2.2.2.1] at hp
      rcases List.mem_cons.1 hp with rfl | hp
      · decide
      · rcases List.mem_cons.1 hp with rfl | hp
        · decide
        · cases hp) (by decide) (by decide)
    rw [hg4] at hQ
    have HQ := Lib.hid hQ
    have HG4 := Lib.hid hg4
    clear hQ hd4 ht4 hT4 hlow4 hC4 hg3 hg4 HT3
    go_wp2_with fail
    refine HQ.out.mono ?_
    rintro e w5 ⟨wb, g5, rfl, _, h5, t5⟩
    have hg5 : g5.d = D := t5.d.trans HG4.out
    have h5 : WhI w w5 wb g5 two3 4 0 wZero := h5
    have hL := wlist_any g5 two3 ⟨#[]⟩ w5 h5.disk (by have := h5.ease.good.len; omega)
    rw [three_names, hg5] at hL
    have HL := Lib.hid hL
    have H5 := Lib.hid h5
    have HG5 := Lib.hid hg5
    clear hL h5 t5 hg5
    go_wp2_with fail
    refine HL.out.mono ?_
    rintro e w6 ⟨v6, rfl, hs6, hb6⟩
    obtain ⟨a6, c6, rfl⟩ := hs6.form
    have hsm : Strs (w6.alloc (.cells #[.string wS, .string xF] 9)) 0 (.slice (some ⟨w6.heap.size, 0, none⟩) 2 2) [wS, xF] := ⟨some ⟨w6.heap.size, 0, none⟩, 2, rfl, .inr ⟨_, _, rfl, Nat.zero_le _, fun i hi => by
      match i, hi with
      | 0, _ => simp
      | 1, _ => simp⟩⟩
    have hc6 : Chg (fun _ => False) w6 (w6.alloc (.cells #[.string wS, .string xF] 9)) := Chg.alloc _ (Chg.refl _ _) _
    have HSM := Lib.hid (Oc.same_any _ _ [wS, xF] [wS, xF] _ (hs6.zero.below ((Below.refl _ _).alloc (Nat.le_refl _) (.cells #[.string wS, .string xF] 9)) (Nat.le_refl _)) hsm (by decide))
    have H6 := Lib.hid ((H5.out.new (Chg.of_below hb6)).new hc6)
    have HZ6 : Hid (wb < w6.heap.size) := Lib.hid (H5.out.new (Chg.of_below hb6)).lt
    clear hs6 hb6 hsm hc6
    go_wp2_with fail
    refine HSM.out.mono ?_
    rintro e w7 ⟨rfl, y, rfl⟩
    obtain ⟨W8, hW8⟩ : ∃ W, W = ((w6.alloc (.cells #[.string wS, .string xF] 9)).drewN y).alloc (.cells Z 3) := ⟨_, rfl⟩
    obtain ⟨B, hB⟩ : ∃ B, B = w6.heap.size + 1 := ⟨_, rfl⟩
    have hBs : ((w6.alloc (.cells #[.string wS, .string xF] 9)).drewN y).heap.size = B := by rw [hB]; show (w6.alloc _).heap.size = _; rw [World.size_alloc]
    have hc8 : Chg (fun _ => False) (w6.alloc (.cells #[.string wS, .string xF] 9)) W8 := by rw [hW8]; exact Chg.alloc _ ((Chg.refl _ _).drewN y) _
    have h8 := H6.out.new hc8
    have hJ : SlJ w W8 wb B D 4 wZero := by
      refine ⟨⟨g5, two3, HG5.out, h8, fun hx => ?_⟩, ⟨?_, rfl⟩, ?_⟩
      · have h1 := H6.out.disk.lt _ hx
        rw [World.size_alloc] at h1
        omega
      · rw [hW8, ← HZ.out, ← hBs]
        exact heap_alloc_new _ _
      · have := HZ6.out; omega
    have HJ := Lib.hid hJ
    have HWB : Hid (w.heap.size ≤ B) := Lib.hid (by have := H6.out.low; have := HZ6.out; omega)
    have HW8 := Lib.hid hW8
    have HBB := Lib.hid hB
    have HBS := Lib.hid hBs
    clear hJ hc8 h8 hW8 hB hBs
    go_upto_region 12 with fail
    rw [← HBB.out, ← HW8.out]
    clear HSM HL HQ HC1 HC2 HAW
    go_wp2_with fail
    go_loopw [52] (fun i wr => ∃ (k n : Nat) (L : List Nat), k ≤ N ∧ i = .int .i64 (k : Int) ∧ n ≤ 4 + k ∧ Hid (SlJ w wr wb B D n L)) (fun i _ => N - (intOf i).toNat)
    case atStart => exact ⟨0, 4, wZero, Nat.zero_le _, rfl, Nat.le_refl _, HJ⟩
    case round =>
      obtain ⟨k, n, L, hk, rfl, hn, HJr⟩ := hrel
      by_cases hlt : k < N
      · have hlt' : (k : Int) < (N : Int) := by omega
        obtain ⟨b, o, rfl, hc0, hc1⟩ := HCL.out wr HJr.out.below k (by rw [← HN.out]; exact hlt)
        obtain ⟨x, hx⟩ : ∃ x, x = os.getD k (0, 0) := ⟨_, rfl⟩
        rw [← hx] at hc0 hc1
        obtain ⟨p, q⟩ := x
        dsimp only at hc0 hc1
        obtain ⟨W9, hW9⟩ : ∃ W, W = wr.alloc (.cells #[.int .i64 p, .int .i64 q] 35) := ⟨_, rfl⟩
        obtain ⟨X, hX⟩ : ∃ X, X = wr.heap.size := ⟨_, rfl⟩
        have hc9 : Chg (fun _ => False) wr W9 := hW9 ▸ Chg.alloc _ (Chg.refl _ _) _
        have j0 : W9.cell? ⟨X, 0, none⟩ = some (.int .i64 p) := by rw [hW9, hX]; simp
        have j1 : W9.cell? ⟨X, 1, none⟩ = some (.int .i64 q) := by rw [hW9, hX]; simp
        have HS := Lib.hid (HJr.out.set hc9 (by omega) p q X (by omega) _ _ ⟨j0, j1⟩)
        have HW9 := Lib.hid hW9
        have HX := Lib.hid hX
        have HNE := Lib.hid HJr.out.ne
        clear hx hlt hW9 hX hc9
        go_upto_region 15 with fail
        rw [← HW9.out, ← HX.out]
        by_cases hs : p < 0 ∨ 15 < p
        · have hE : wSetE p q = 2 := by unfold wSetE; rw [if_pos hs]
          have hL : wSetL L p q = L := by unfold wSetL; rw [if_neg (by rw [hE]; decide)]
          have HE := Lib.hid hE
          have HL := Lib.hid hL
          have hbb : decide (p < 0) = true ∨ decide (p < 0) = false ∧ decide (15 < p) = true := by
            by_cases h0 : p < 0
            · exact .inl (decide_eq_true h0)
            · exact .inr ⟨decide_eq_false h0, decide_eq_true (by omega)⟩
          clear hE hL hs
          rcases hbb with d0 | ⟨d0, d1⟩
          all_goals
            go_wp2_with fail
            refine HS.out.mono ?_
            rintro e w10 ⟨he, hw10, hwt, j0, j1⟩
            rw [HE.out] at he
            subst he
            rw [HL.out] at hw10
            have HJ10 : Hid (SlJ w w10 wb B D (n + 1) L) := Lib.hid ⟨hw10, hwt, HNE.out⟩
            clear hw10 hwt
            go_wp2_with fail
            exact ⟨⟨k + 1, n + 1, L, by omega, by go_num, by omega, HJ10⟩, by simp [intOf]; omega⟩
        · have d0 : decide (p < 0) = false := decide_eq_false (by omega)
          have d1 : decide (15 < p) = false := decide_eq_false (by omega)
          by_cases hq : q < 0 ∨ 281474976710656 ≤ q
          · have hE : wSetE p q = 1 := by unfold wSetE; rw [if_neg hs, if_pos hq]
            have hL : wSetL L p q = L := by unfold wSetL; rw [if_neg (by rw [hE]; decide)]
            have HE := Lib.hid hE
            have HL := Lib.hid hL
            have hbb : decide (q < 0) = true ∨ decide (q < 0) = false ∧ decide (281474976710656 ≤ q) = true := by
              by_cases h0 : q < 0
              · exact .inl (decide_eq_true h0)
              · exact .inr ⟨decide_eq_false h0, decide_eq_true (by omega)⟩
            clear hE hL hs hq
            rcases hbb with q0 | ⟨q0, q1⟩
            all_goals
              go_wp2_with fail
              refine HS.out.mono ?_
              rintro e w10 ⟨he, hw10, hwt, j0, j1⟩
              rw [HE.out] at he
              subst he
              rw [HL.out] at hw10
              have HJ10 : Hid (SlJ w w10 wb B D (n + 1) L) := Lib.hid ⟨hw10, hwt, HNE.out⟩
              clear hw10 hwt
              go_wp2_with fail
              exact ⟨⟨k + 1, n + 1, L, by omega, by go_num, by omega, HJ10⟩, by simp [intOf]; omega⟩
          · have q0 : decide (q < 0) = false := decide_eq_false (by omega)
            have q1 : decide (281474976710656 ≤ q) = false := decide_eq_false (by omega)
            have hE : wSetE p q = 0 := by unfold wSetE; rw [if_neg hs, if_neg hq]
            have hL : wSetL L p q = L.set p.toNat q.toNat := by unfold wSetL; rw [if_pos hE]
            obtain ⟨i, hi⟩ : ∃ i : Nat, p = (i : Int) := ⟨p.toNat, by omega⟩
            obtain ⟨y, hy⟩ : ∃ y : Nat, q = (y : Int) := ⟨q.toNat, by omega⟩
            subst hi hy
            rw [Int.toNat_natCast, Int.toNat_natCast] at hL
            have hi16 : i < 16 := by omega
            have hi16' : (i : Int) < 16 := by omega
            have HE := Lib.hid hE
            have HL := Lib.hid hL
            clear hE hL hs hq
            go_wp2_with fail
            refine HS.out.mono ?_
            rintro e w10 ⟨he, hw10, hwt, j0, j1⟩
            rw [HE.out] at he
            subst he
            rw [HL.out] at hw10
            have z9 := hwt.free i
            have k9 := hwt.cell hi16
            have HJ10 := Lib.hid (SlJ.stored hw10 hwt HNE.out HWB.out)
            clear hw10 hwt
            go_wp2_with fail
            exact ⟨⟨k + 1, n + 1, _, by omega, by go_num, by omega, HJ10⟩, by simp [intOf]; omega⟩
      · obtain rfl : N = k := by omega
        have HLN := Lib.hid HJr.out.want.len
        clear HN
        go_wp2_with fail
        go_loopw [12, 95] (fun s i wr => ∃ (k : Nat) (t : ByteArray), k ≤ 16 ∧ s = .string t ∧ Hid (t = ⟨(wbytes (L.take k)).toArray⟩) ∧ i = .int .i64 (k : Int) ∧ Hid (SlJ w wr wb B D n L)) (fun _ i _ => 16 - (intOf i).toNat)
        case atStart => exact ⟨0, ⟨#[]⟩, Nat.zero_le _, rfl, Lib.hid rfl, rfl, HJr⟩
        case round =>
          obtain ⟨j, t, hj, rfl, HTT, rfl, HJ2⟩ := hrel
          by_cases hlt2 : j < 16
          · have hlt2' : (j : Int) < 16 := by omega
            have hcl := HJ2.out.want.cell hlt2
            obtain ⟨x, hx⟩ : ∃ x, x = L.getD j 0 := ⟨_, rfl⟩
            rw [← hx] at hcl
            have hx48 : x < 281474976710656 := by
              obtain ⟨⟨g, st, _, hw, _⟩, _, _⟩ := HJ2.out
              rw [hx, List.getD_eq_getElem?_getD, List.getElem?_eq_getElem (by rw [HLN.out]; exact hlt2)]
              exact hw.ok _ (List.getElem_mem _)
            have HRN := Lib.hid (Oc.refNum_any 6 x wr (by decide) (by omega))
            obtain ⟨u, hu⟩ : ∃ u : ByteArray, u = ⟨(Oc.numB 6 x).toArray⟩ := ⟨_, rfl⟩
            rw [← hu] at HRN
            have htk : wbytes (L.take (j + 1)) = wbytes (L.take j) ++ Oc.numB 6 x := by
              rw [List.take_add_one, List.getElem?_eq_getElem (by rw [HLN.out]; exact hlt2), wbytes_app, hx, List.getD_eq_getElem?_getD, List.getElem?_eq_getElem (by rw [HLN.out]; exact hlt2)]
              show _ ++ (Oc.numB 6 _ ++ []) = _
              rw [List.append_nil]
              rfl
            have hts : t.size ≤ 96 := by
              rw [HTT.out, ← text_len]
              show (wbytes (L.take j)).length ≤ 96
              rw [wbytes_length, List.length_take]
              omega
            have hus : u.size ≤ 96 := by
              rw [hu, ← text_len]
              show (Oc.numB 6 x).length ≤ 96
              rw [Oc.numB_length]
              decide
            have hadd : ∀ W, (Op.stringOp .add t u).run Try.prog W = .ok (.string (t ++ u)) W := fun W => run_string_add W t u (by omega) (by omega)
            have HTU : Hid (t ++ u = ⟨(wbytes (L.take (j + 1))).toArray⟩) := Lib.hid (by rw [htk, HTT.out, hu, append_toArray])
            clear hx hu htk hts hus hlt2
            go_wp2_with fail
            refine HRN.out.mono ?_
            rintro e w11 ⟨rfl, hb11⟩
            have HJ3 := Lib.hid (HJ2.out.chg (S := fun _ => False) (Chg.of_below hb11))
            clear hb11
            go_wp2_with fail
            exact ⟨⟨j + 1, t ++ u, by omega, rfl, HTU, by go_num, HJ3⟩, by simp [intOf]; omega⟩
          · obtain rfl : j = 16 := by omega
            obtain ⟨⟨g, st, hgd, hw, hB⟩, hwt, hne⟩ := HJ2.out
            have hA := all_any g st wS wr hw.disk (by decide)
            unfold AllTo at hA
            rw [wall_bytes hw, hgd] at hA
            have htt : t = ⟨(wbytes L).toArray⟩ := by rw [HTT.out, List.take_of_length_le (by rw [HLN.out]; exact Nat.le_refl _)]
            rw [← htt] at hA
            have HA := Lib.hid hA
            have HWI := Lib.hid hw
            have HWT := Lib.hid hwt
            clear hA htt hw hwt hB hgd hlt2
            go_wp2_with fail
            refine HA.out.mono ?_
            rintro e w11 ⟨rfl, hb11⟩
            have h11 := HWI.out.new (Chg.of_below hb11)
            have HH := Lib.hid (wheads_any h11)
            have H11 := Lib.hid h11
            have HWT1 := Lib.hid (HWT.out.chg (Chg.of_below hb11 : Chg (fun _ => False) wr w11) (fun x => x))
            clear hb11 h11
            go_wp2_with fail
            refine HH.out.mono ?_
            rintro e w12 ⟨v12, rfl, ho12, hb12⟩
            have h12 := H11.out.new (Chg.of_below hb12)
            have HD := Lib.hid (whead_any h12 ask)
            obtain ⟨Q, cQ, rfl, _, hQs, hq⟩ := wheads_cells ho12 HLN.out
            have HQC := Lib.hid hq
            have HQS := Lib.hid hQs
            have H12 := Lib.hid h12
            have HWT2 := Lib.hid (HWT1.out.chg (Chg.of_below hb12 : Chg (fun _ => False) w11 w12) (fun x => x))
            clear hb12 h12 ho12 hq hQs
            go_wp2_with fail
            refine HD.out.mono ?_
            rintro e w13 ⟨rfl, hb13⟩
            have hints : Ints w13 (.slice (some ⟨Q, 0, none⟩) 16 cQ) (L.map fun x => ((x : Nat) : Int)) := ⟨_, _, by rw [List.length_map, HLN.out], .inr ⟨Q, 0, rfl, fun i hi => by
              rw [List.length_map, HLN.out] at hi
              rw [Nat.zero_add, (hb13.cell (p := ⟨Q, i, none⟩) HQS.out).trans (HQC.out i hi)]
              congr 2
              rw [List.getD_eq_getElem?_getD, List.getD_eq_getElem?_getD, List.getElem?_map, List.getElem?_eq_getElem (by rw [HLN.out]; exact hi)]
              rfl⟩⟩
            have hwt3 := HWT2.out.chg (Chg.of_below hb13 : Chg (fun _ => False) w12 w13) (fun x => x)
            have HB13 : Hid (Below w.heap.size w w13) := Lib.hid (H12.out.new (Chg.of_below hb13)).below
            have HIN := Lib.hid (ints_any _ _ _ _ w13 hints hwt3.ints (by rw [List.length_map, HLN.out]; decide))
            have HCC : Hid (∀ j, j < 16 → w13.cell? ⟨B, j, none⟩ = some (.int .i64 (L.getD j 0 : Nat))) := Lib.hid (fun j hj => hwt3.cell hj)
            clear hb13 hints hwt3
            by_cases hs : ask < 0 ∨ 15 < ask
            · have hE : wHeadE ask = 2 := by unfold wHeadE; rw [if_pos hs]
              have hV : wHeadV L ask = 0 := by unfold wHeadV; rw [if_pos hs]
              have hbb : decide (ask < 0) = true ∨ decide (ask < 0) = false ∧ decide (15 < ask) = true := by
                by_cases h0 : ask < 0
                · exact .inl (decide_eq_true h0)
                · exact .inr ⟨decide_eq_false h0, decide_eq_true (by omega)⟩
              rw [hE, hV]
              clear hE hV hs
              rcases hbb with d0 | ⟨d0, d1⟩
              all_goals
                go_wp2_with fail
                go_ret
                exact ⟨rfl, HB13.out⟩
            · have d0 : decide (ask < 0) = false := decide_eq_false (by omega)
              have d1 : decide (15 < ask) = false := decide_eq_false (by omega)
              obtain ⟨i, hi⟩ : ∃ i : Nat, ask = (i : Int) := ⟨ask.toNat, by omega⟩
              subst hi
              have hi16 : i < 16 := by omega
              have hi16' : (i : Int) < 16 := by omega
              have hE : wHeadE (i : Int) = 0 := by unfold wHeadE; rw [if_neg hs]
              have hV : wHeadV L (i : Int) = L.getD i 0 := by unfold wHeadV; rw [if_neg hs, Int.toNat_natCast]
              rw [hE, hV]
              have hcc := HCC.out i hi16
              obtain ⟨z, hz⟩ : ∃ z, z = L.getD i 0 := ⟨_, rfl⟩
              rw [← hz] at hcc ⊢
              clear hE hV hs hz
              go_wp2_with fail
              refine HIN.out.mono ?_
              rintro e w14 ⟨rfl, y2, rfl⟩
              go_wp2_with fail
              go_ret
              refine ⟨?_, below_drewN HB13.out y2⟩
              first | rfl | simp
end Go.Proofs.Ytkbgococmkcjaaa
