/- A part. -/
import Derived.Test.YtedmfhcjcloolaaPco7
import Derived.Test.YtedmfhcjcloolaaPco9
import Derived.Test.YtedmfhcjcloolaaPco11
set_option linter.unusedVariables false
set_option linter.unusedSimpArgs false
namespace Go.Proofs.Ytedmfhcjcloolaa
open Go.RowKit Go.Deep
theorem pk_awake1 : noteP [] 5 2 9 0 = (true, [(5, (1, 9))]) := by decide
theorem pk_awake2 : noteP [(5, (1, 9))] 6 3 0 5 = (true, [(5, (2, 0))]) := by decide
theorem pk_awake3 : noteP [(5, (2, 0))] 7 4 0 5 = (false, [(5, (2, 0))]) := by decide
abbrev lawM (kind due ref : Int) : NoteM := ⟨kind, 0, due, 0, ref, 0, ⟨#[]⟩, ⟨#[]⟩, ⟨#[]⟩, .slice none 0 0⟩
theorem lnote_any {w : World} {sb m : Nat} {M : PM} (h : PeI w sb m M) (id kind due ref : Int) (hid : (Lit.int .i64 id).wf = true) (href : (Lit.int .i64 ref).wf = true) (hn : M.length ≤ 1000000) :
    Calls Try.prog 7 #[.pointer (some ⟨sb, 0, none⟩), .int .i64 id, .agg #[.int .i64 kind, .int .i64 0, .int .i64 due, .int .i64 0, .int .i64 ref, .int .i64 0, .string ⟨#[]⟩, .string ⟨#[]⟩, .string ⟨#[]⟩, .slice none 0 0]] w
      (NoteTo sb m w (noteP M id kind due ref).1 (noteP M id kind due ref).2) :=
  pnote_any h id (lawM kind due ref) rfl hid href (by unfold maxLen; omega)
theorem NoteTo.below {sb m B : Nat} {w0 w w' : World} {b : Bool} {M : PM} {e : Ending} (h : NoteTo sb m w b M e w') (hb : Below B w0 w) (hw : B ≤ w0.heap.size) (hm : B ≤ m) : Below B w0 w' :=
  hb.trans (h.2.2.below (fun k _ e => by omega) (Nat.le_trans hw hb.size))
set_option maxHeartbeats 2000000 in
set_option maxRecDepth 100000 in
theorem pawake_any (w : World) : Calls Try.prog 4 #[] w fun e w' => e = .returned (.bool true) ∧ Below w.heap.size w w' := by
  go_enter Try.func4, Try.ntmps4
  go_wp2_with fail
  refine (pnew_any _).mono ?_
  rintro e w1 ⟨sb, m, rfl, h1, hsb, hm, hb1⟩
  have H1 := Lib.hid (lnote_any h1 5 2 9 0 (by decide) (by decide) (by decide))
  rw [pk_awake1] at H1
  have HB1 := Lib.hid hb1
  clear h1 hb1
  go_wp2_with fail
  refine H1.out.mono ?_
  rintro e w2 h2
  obtain rfl := h2.1
  have HB2 := Lib.hid (h2.below HB1.out (Nat.le_refl _) hm)
  have H2 := Lib.hid (lnote_any h2.2.1 6 3 0 5 (by decide) (by decide) (by decide))
  rw [pk_awake2] at H2
  clear h2
  go_wp2_with fail
  refine H2.out.mono ?_
  rintro e w3 h3
  obtain rfl := h3.1
  have HB3 := Lib.hid (h3.below HB2.out (Nat.le_refl _) hm)
  have H3 := Lib.hid (lnote_any h3.2.1 7 4 0 5 (by decide) (by decide) (by decide))
  rw [pk_awake3] at H3
  clear h3
  go_wp2_with fail
  refine H3.out.mono ?_
  rintro e w4 h4
  obtain rfl := h4.1
  have HB4 := Lib.hid (h4.below HB3.out (Nat.le_refl _) hm)
  have H4 := Lib.hid (pstate_any h4.2.1 5 (by decide))
  rw [show stP [(5, (2, 0))] 5 = 2 by decide] at H4
  clear h4
  go_wp2_with fail
  refine H4.out.mono ?_
  rintro e w5 ⟨rfl, rfl⟩
  go_wp2_with fail
  go_ret
  exact ⟨rfl, HB4.out⟩
structure PJ (w0 w : World) (sb m k : Nat) (M : PM) : Prop where
  set : PeI w sb m M
  len : M.length ≤ k
  below : Below w0.heap.size w0 w
  sb0 : w0.heap.size ≤ sb
  m0 : w0.heap.size ≤ m
theorem PJ.new {w0 w w' : World} {sb m k : Nat} {M : PM} (h : PJ w0 w sb m k M) (hc : Below w.heap.size w w') : PJ w0 w' sb m k M :=
  ⟨h.set.new (Chg.of_below hc), h.len, h.below.trans (hc.mono h.below.size), h.sb0, h.m0⟩
theorem note_counts {M : PM} (h : GoodP M) (id kind due ref : Int) :
    ((noteP M id kind due ref).1 = false ∧ (noteP M id kind due ref).2 = M) ∨
    ((noteP M id kind due ref).1 = true ∧ kind = 2 ∧ (noteP M id kind due ref).2.length = M.length + 1) ∨
    ((noteP M id kind due ref).1 = true ∧ kind ≠ 2 ∧ (noteP M id kind due ref).2.length = M.length) := by
  have hl := note_len h id kind due ref
  rcases note_cases h id kind due ref with e | ⟨hk, _, _, e⟩ | ⟨hk, _, s, _, e⟩
  · rw [e]; exact .inl ⟨rfl, rfl⟩
  · rw [e] at hl ⊢
    simp only [hk, and_self, if_true] at hl
    exact .inr (.inl ⟨rfl, hk, hl⟩)
  · rw [e] at hl ⊢
    simp only [hk, and_false, if_false, Nat.add_zero] at hl
    exact .inr (.inr ⟨rfl, hk, hl⟩)
theorem PendL.nodup {M : PM} {l : List Int} (h : PendL M l) (hg : GoodP M) : l.Nodup := by
  rw [h.1.nodup_iff]
  exact (List.filter_sublist.map _).nodup hg.nodup
theorem PendL.waits {M : PM} {l : List Int} (h : PendL M l) (hg : GoodP M) {x : Int} (hx : x ∈ l) : stP M x = 1 := by
  obtain ⟨p, hp, rfl⟩ := List.mem_map.1 (h.1.mem_iff.1 hx)
  obtain ⟨h1, h2⟩ := List.mem_filter.1 hp
  have : getK M p.1 = some p.2 := getK_of hg.nodup h1
  unfold stP
  rw [this]
  exact of_decide_eq_true h2
theorem PendL.next {M : PM} {l : List Int} (h : PendL M l) (hg : GoodP M) {j : Nat} (hj : j + 1 < l.length) : dueP M (l.getD j 0) ≤ dueP M (l.getD (j + 1) 0) ∧ l.getD j 0 ≠ l.getD (j + 1) 0 := by
  have h1 := (List.pairwise_iff_getElem.1 h.2) j (j + 1) (by omega) hj (by omega)
  have h2 := (List.pairwise_iff_getElem.1 (h.nodup hg)) j (j + 1) (by omega) hj (by omega)
  rw [List.getD_eq_getElem?_getD, List.getD_eq_getElem?_getD, List.getElem?_eq_getElem hj, List.getElem?_eq_getElem (by omega : j < l.length)]
  exact ⟨by simp only [Option.getD_some]; omega, h2⟩
set_option maxHeartbeats 8000000 in
set_option maxRecDepth 100000 in
theorem walk_PendCounts (v : Value) (os : List POp) (w : World) (hv : POps w v os) (hm : os.length ≤ maxLen) (hf : ∀ x ∈ os, (Lit.int .i64 x.id).wf = true ∧ (Lit.int .i64 x.ref).wf = true) :
    Calls Try.prog 3 #[v] w fun e w' => e = .returned (.bool true) ∧ Below w.heap.size w w' := by
  obtain ⟨a, cap, rfl⟩ := hv.form
  have HAW := Lib.hid (pawake_any w)
  have hcl : ∀ W, Below w.heap.size w W → ∀ (k : Nat) (x : POp), os[k]? = some x → (∃ b o, a = some ⟨b, o, none⟩ ∧ POpAt W b (o + k * 5) x) ∧ (Lit.int .i64 x.id).wf = true ∧ (Lit.int .i64 x.ref).wf = true := fun W hb k x hx => ⟨(hv.below hb).at_ hx, hf x (List.mem_of_getElem? hx)⟩
  obtain ⟨N, hN⟩ : ∃ N, N = os.length := ⟨_, rfl⟩
  have HCL := Lib.hid hcl
  have HN := Lib.hid hN
  rw [← hN]
  clear hcl hN hv hf hm
  by_cases h200 : 200 < N
  · have h200' : (200 : Int) < (N : Int) := by omega
    clear h200
    go_enter Try.func3, Try.ntmps3
    go_wp2_with fail
    refine HAW.out.mono ?_
    rintro e w1 ⟨rfl, hb1⟩
    have HB1 := Lib.hid hb1
    clear hb1
    go_wp2_with fail
    go_ret
    exact ⟨rfl, HB1.out⟩
  · have h200' : ¬ (200 : Int) < (N : Int) := by omega
    have hN200 : N ≤ 200 := by omega
    clear h200
    go_enter Try.func3, Try.ntmps3
    go_wp2_with fail
    refine HAW.out.mono ?_
    rintro e w1 ⟨rfl, hb1⟩
    have HB1 := Lib.hid hb1
    clear hb1
    go_wp2_with fail
    refine (pnew_any _).mono ?_
    rintro e w2 ⟨sb, m, rfl, h2, hsb, hm, hb2⟩
    have H2 : Hid (PJ w w2 sb m 0 []) := Lib.hid ⟨h2, Nat.le_refl _, HB1.out.trans (hb2.mono HB1.out.size), Nat.le_trans HB1.out.size hsb, Nat.le_trans HB1.out.size hm⟩
    clear h2 hsb hm hb2
    go_wp2_with fail
    go_loopw [4, 28] (fun mn i wr => ∃ (k : Nat) (M : PM), k ≤ N ∧ i = .int .i64 (k : Int) ∧ mn = .int .i64 (M.length : Nat) ∧ Hid (PJ w wr sb m k M)) (fun _ i _ => N - (intOf i).toNat)
    case atStart => exact ⟨0, [], Nat.zero_le _, rfl, rfl, H2⟩
    case round =>
      obtain ⟨k, M, hk, rfl, rfl, HJ⟩ := hrel
      by_cases hlt : k < N
      · as_aux_lemma =>
          have hlt' : (k : Int) < (N : Int) := by omega
          obtain ⟨x, hx⟩ : ∃ x, os[k]? = some x := ⟨_, List.getElem?_eq_getElem (by rw [← HN.out]; exact hlt)⟩
          obtain ⟨⟨b, o, rfl, hat⟩, hw1, hw2⟩ := HCL.out wr HJ.out.below k x hx
          obtain ⟨id, kind, due, ref, trim⟩ := x
          obtain ⟨c0, c1, c2, c3, c4⟩ := hat
          dsimp only at c0 c1 c2 c3 c4 hw1 hw2
          have HW1 := Lib.hid hw1
          have HW2 := Lib.hid hw2
          have hG := HJ.out.set.good
          have hcnt : ∀ V W, GoodP V → V.length ≤ 1000000 → PeI W sb m V → Calls Try.prog 6 #[.pointer (some ⟨sb, 0, none⟩)] W fun e w' => e = .returned (.tuple #[.int .i64 (cntP V 1 : Nat), .int .i64 (cntP V 2 : Nat), .int .i64 (cntP V 3 : Nat)]) ∧ Below W.heap.size W w' := fun V W _ hl hp => pcounts_any hp hl
          have hall := cnt_all hG
          have hcs := note_counts hG id kind due ref
          have hall2 := cnt_all (hG.note id kind due ref)
          have hnt : ∀ W, PeI W sb m M → Calls Try.prog 7 #[.pointer (some ⟨sb, 0, none⟩), .int .i64 id, .agg #[.int .i64 kind, .int .i64 0, .int .i64 due, .int .i64 0, .int .i64 ref, .int .i64 0, .string ⟨#[]⟩, .string ⟨#[]⟩, .string ⟨#[]⟩, .slice none 0 0]] W (NoteTo sb m W (noteP M id kind due ref).1 (noteP M id kind due ref).2) :=
            fun W hp => lnote_any hp id kind due ref hw1 hw2 (Nat.le_trans HJ.out.len (by omega))
          obtain ⟨dv, hdv⟩ : ∃ d, d = (noteP M id kind due ref).1 := ⟨_, rfl⟩
          obtain ⟨M', hM'⟩ : ∃ d, d = (noteP M id kind due ref).2 := ⟨_, rfl⟩
          rw [← hdv, ← hM'] at hcs hnt
          rw [← hM'] at hall2
          have hG2 : GoodP M' := by rw [hM']; exact hG.note id kind due ref
          have hlen := HJ.out.len
          have HCN := Lib.hid hcnt
          have HNT := Lib.hid hnt
          have HALL := Lib.hid hall
          have HALL2 := Lib.hid hall2
          have HG2 := Lib.hid hG2
          have HG := Lib.hid hG
          have hXm : m < wr.heap.size := HJ.out.set.lt.2
          clear hcnt hall hall2 hnt hdv hM' hG2 hG hw1 hw2 hx HW1 HW2 HCL HAW
          go_upto_region 10 with fail
          obtain ⟨X, hX⟩ : ∃ X, X = wr.heap.size := ⟨_, rfl⟩
          obtain ⟨W3, hW3⟩ : ∃ W, W = wr.alloc (.cells #[.int .i64 id, .int .i64 kind, .int .i64 due, .int .i64 ref, .bool trim] 27) := ⟨_, rfl⟩
          have hx3 : W3.heap[X]? = some (.cells #[.int .i64 id, .int .i64 kind, .int .i64 due, .int .i64 ref, .bool trim] 27 (0, 0)) := by rw [hW3, hX]; exact heap_alloc_new _ _
          have hb3 : Below wr.heap.size wr W3 := by rw [hW3]; exact below_alloc (Below.refl _ _) _
          have HJ3 := Lib.hid (HJ.out.new hb3)
          rw [← hX] at hXm
          rw [← hW3, ← hX]
          have HX3 := Lib.hid hx3
          clear hW3 hX hx3 hb3 c0 c1 c2 c3 c4
          go_wp2_with fail
          refine (HCN.out M _ HG.out (Nat.le_trans hlen (by omega)) HJ3.out.set).mono ?_
          rintro e w4 ⟨rfl, hb4⟩
          have HJ4 := Lib.hid (HJ3.out.new hb4)
          have hx4 : w4.heap[X]? = _ := (hb4.block X (Array.getElem?_eq_some_iff.1 HX3.out).1).trans HX3.out
          have k0 : w4.cell? ⟨X, 0, none⟩ = some (.int .i64 id) := by rw [Lib.cell_of_heap hx4]; rfl
          have k1 : w4.cell? ⟨X, 1, none⟩ = some (.int .i64 kind) := by rw [Lib.cell_of_heap hx4]; rfl
          have k2 : w4.cell? ⟨X, 2, none⟩ = some (.int .i64 due) := by rw [Lib.cell_of_heap hx4]; rfl
          have k3 : w4.cell? ⟨X, 3, none⟩ = some (.int .i64 ref) := by rw [Lib.cell_of_heap hx4]; rfl
          have HX4 := Lib.hid hx4
          clear hb4 hx4 HX3 HJ3
          go_wp2_with fail
          refine (HNT.out _ HJ4.out.set).mono ?_
          rintro e w5 h5
          obtain rfl := h5.1
          have hx5 : w5.heap[X]? = _ := (h5.2.2.block X (Array.getElem?_eq_some_iff.1 HX4.out).1 (by omega)).trans HX4.out
          have k1 : w5.cell? ⟨X, 1, none⟩ = some (.int .i64 kind) := by rw [Lib.cell_of_heap hx5]; rfl
          have hlen2 : M'.length ≤ k + 1 := by
            rcases hcs with ⟨_, e⟩ | ⟨_, _, e⟩ | ⟨_, _, e⟩
            · rw [e]; omega
            · omega
            · omega
          have HJ5 : Hid (PJ w w5 sb m (k + 1) M') := Lib.hid ⟨h5.2.1, hlen2, h5.below HJ4.out.below (Nat.le_refl _) HJ4.out.m0, HJ4.out.sb0, HJ4.out.m0⟩
          have HX5 := Lib.hid hx5
          clear h5 hx5 HX4 HJ4 k0 k2 k3
          go_wp2_with fail
          refine (HCN.out M' _ HG2.out (Nat.le_trans hlen2 (by omega)) HJ5.out.set).mono ?_
          rintro e w6 ⟨rfl, hb6⟩
          have HJ6 := Lib.hid (HJ5.out.new hb6)
          have hx6 : w6.heap[X]? = _ := (hb6.block X (Array.getElem?_eq_some_iff.1 HX5.out).1).trans HX5.out
          have k1 : w6.cell? ⟨X, 1, none⟩ = some (.int .i64 kind) := by rw [Lib.cell_of_heap hx6]; rfl
          clear hb6 hx6 HX5 HJ5
          have hsum := HALL2.out
          have hsum0 := HALL.out
          obtain ⟨p1, hp1⟩ : ∃ n, n = cntP M' 1 := ⟨_, rfl⟩
          obtain ⟨p2, hp2⟩ : ∃ n, n = cntP M' 2 := ⟨_, rfl⟩
          obtain ⟨p3, hp3⟩ : ∃ n, n = cntP M' 3 := ⟨_, rfl⟩
          rw [← hp1, ← hp2, ← hp3] at hsum
          obtain ⟨L', hL'⟩ : ∃ n, n = M'.length := ⟨_, rfl⟩
          rw [← hL'] at hsum hlen2
          have hs1 : IntKind.i64.wrap ((p1 : Int) + (p2 : Int)) = (p1 : Int) + (p2 : Int) := IntWalk.i64_in _ (by omega)
          have hs2 : IntKind.i64.wrap ((p1 : Int) + (p2 : Int) + (p3 : Int)) = (L' : Int) := by rw [IntWalk.i64_in _ (by omega)]; omega
          have HL' := Lib.hid hL'
          rcases hcs with ⟨rfl, rfl⟩ | ⟨rfl, hk2, hl⟩ | ⟨rfl, hk2, hl⟩
          · rw [← hp1, ← hp2, ← hp3, ← hL']
            clear hp1 hp2 hp3 hL' hsum hsum0 HCN HNT HALL HALL2 HG HG2
            go_wp2_with fail
            exact ⟨⟨k + 1, M', by omega, by go_num, by rw [HL'.out], HJ6⟩, by simp [intOf]; omega⟩
          · have hkk : (kind == 2) = true := by rw [hk2]; rfl
            have hml : IntKind.i64.wrap ((M.length : Int) + 1) = (L' : Int) := by rw [IntWalk.i64_in _ (by omega)]; omega
            rw [← hp1, ← hp2, ← hp3]
            obtain ⟨L, hL⟩ : ∃ n, n = M.length := ⟨_, rfl⟩
            rw [← hL] at hml ⊢
            clear hp1 hp2 hp3 hL' hL hl hk2 hsum hsum0 HCN HNT HALL HALL2 HG HG2
            go_wp2_with fail
            exact ⟨⟨k + 1, M', by omega, by go_num, by rw [HL'.out], HJ6⟩, by simp [intOf]; omega⟩
          · have hkk : (kind == 2) = false := beq_eq_false_iff_ne.2 hk2
            rw [← hp1, ← hp2, ← hp3]
            rw [← hl, ← hL']
            clear hp1 hp2 hp3 hL' hl hk2 hsum hsum0 HCN HNT HALL HALL2 HG HG2
            go_wp2_with fail
            exact ⟨⟨k + 1, M', by omega, by go_num, by rw [HL'.out], HJ6⟩, by simp [intOf]; omega⟩
      · as_aux_lemma =>
          have hkN : ¬ (k : Int) < (N : Int) := by omega
          have hP := HJ.out.set
          have hlen : M.length ≤ 1000000 := Nat.le_trans HJ.out.len (by omega)
          have HPE := Lib.hid (ppending_any hP hlen)
          have HG := Lib.hid hP.good
          have HLEN := Lib.hid hlen
          have HWF : Hid (∀ p ∈ M, (Lit.int .i64 p.1).wf = true) := Lib.hid hP.map.2.1
          clear hP hlen HCL HAW
          go_wp2_with fail
          refine HPE.out.mono ?_
          rintro e w3 ⟨pv, l, rfl, hpl, hrow, hb3⟩
          have HJ3 := Lib.hid (HJ.out.new hb3)
          have HCN := Lib.hid (pcounts_any HJ3.out.set HLEN.out)
          have hl1 := pend_len hpl
          have HPL := Lib.hid hpl
          obtain ⟨pa, pc, hpv⟩ := hrow.form
          subst hpv
          have HROW := Lib.hid hrow
          obtain ⟨n1, hn1⟩ : ∃ n, n = l.length := ⟨_, rfl⟩
          rw [← hl1, ← hn1] at HCN
          rw [← hn1]
          have HN1 := Lib.hid hn1
          clear hpl hrow hb3 hl1 hn1 HJ HPE
          go_wp2_with fail
          refine HCN.out.mono ?_
          rintro e w4 ⟨rfl, hb4⟩
          have HJ4 := Lib.hid (HJ3.out.new hb4)
          have HCL : Hid (∀ j, j < n1 → ∃ g, pa = some ⟨g, 0, none⟩ ∧ w4.cell? ⟨g, j, none⟩ = some (.int .i64 (l.getD j 0))) := Lib.hid fun j hj => by
            have hr := HROW.out
            rw [← HN1.out] at hr
            obtain ⟨g, e, hc⟩ := hr.cellAt (k := j) (by rw [← HN1.out]; exact hj)
            exact ⟨g, e, (hb4.cell (p := ⟨g, j, none⟩) (World.block_lt_of_cell? _ _ hc)).trans hc⟩
          have HMEM : Hid (∀ j, j < n1 → l.getD j 0 ∈ l) := Lib.hid fun j hj => by
            rw [List.getD_eq_getElem?_getD, List.getElem?_eq_getElem (by rw [← HN1.out]; exact hj)]
            exact List.getElem_mem _
          have HST : Hid (∀ j, j < n1 → Calls Try.prog 9 #[.pointer (some ⟨sb, 0, none⟩), .int .i64 (l.getD j 0)] w4 fun e w' => e = .returned (.int .i64 1) ∧ w4 = w') := Lib.hid fun j hj => by
            have hm := HMEM.out j hj
            obtain ⟨p, hp, hpe⟩ := List.mem_map.1 (HPL.out.1.mem_iff.1 hm)
            have := pstate_any HJ4.out.set (l.getD j 0) (by rw [← hpe]; exact HWF.out p (List.mem_filter.1 hp).1)
            rw [HPL.out.waits HG.out hm] at this
            exact this
          have HDU : Hid (∀ j, j < n1 → Calls Try.prog 10 #[.pointer (some ⟨sb, 0, none⟩), .int .i64 (l.getD j 0)] w4 fun e w' => e = .returned (.int .i64 (dueP M (l.getD j 0))) ∧ w4 = w') := Lib.hid fun j hj => by
            have hm := HMEM.out j hj
            obtain ⟨p, hp, hpe⟩ := List.mem_map.1 (HPL.out.1.mem_iff.1 hm)
            exact pdue_any HJ4.out.set (l.getD j 0) (by rw [← hpe]; exact HWF.out p (List.mem_filter.1 hp).1)
          have HNX : Hid (∀ j, j + 1 < n1 → dueP M (l.getD j 0) ≤ dueP M (l.getD (j + 1) 0) ∧ l.getD j 0 ≠ l.getD (j + 1) 0) := Lib.hid fun j hj => HPL.out.next HG.out (by rw [← HN1.out]; exact hj)
          have hn200 : n1 ≤ 1000000 := by
            rw [HN1.out, pend_len HPL.out]
            exact Nat.le_trans (cnt_le _ _) HLEN.out
          clear hb4 HJ3 HROW
          go_wp2_with fail
          go_loopw [98] (fun i wr => ∃ j : Nat, j ≤ n1 ∧ i = .int .i64 (j : Int) ∧ w4 = wr) (fun i _ => n1 - (intOf i).toNat)
          case atStart => exact ⟨0, Nat.zero_le _, rfl, rfl⟩
          case round =>
            obtain ⟨j, hj, rfl, rfl⟩ := hrel
            by_cases hjl : j < n1
            · have hjl' : (j : Int) < (n1 : Int) := by omega
              obtain ⟨g, rfl, hc⟩ := HCL.out j hjl
              have hst := HST.out j hjl
              have hdu := HDU.out j hjl
              cases j with
              | zero =>
                obtain ⟨x, hx⟩ : ∃ x, x = l.getD 0 0 := ⟨_, rfl⟩
                rw [← hx] at hc hst
                have HST2 := Lib.hid hst
                clear hx hst hdu
                go_wp2_with fail
                refine HST2.out.mono ?_
                rintro e w5 ⟨rfl, rfl⟩
                go_wp2_with fail
                exact ⟨⟨1, by omega, by go_num, trivial⟩, by simp [intOf]; omega⟩
              | succ j =>
                obtain ⟨g2, eg, hc2⟩ := HCL.out j (by omega)
                obtain rfl : g = g2 := by cases eg; rfl
                have hdu2 := HDU.out j (by omega)
                obtain ⟨hle, hne⟩ := HNX.out j hjl
                obtain ⟨x, hx⟩ : ∃ x, x = l.getD (j + 1) 0 := ⟨_, rfl⟩
                obtain ⟨y, hy⟩ : ∃ x, x = l.getD j 0 := ⟨_, rfl⟩
                rw [← hx] at hc hst hdu hle hne
                rw [← hy] at hc2 hdu2 hle hne
                obtain ⟨d1, hd1⟩ : ∃ d, d = dueP M x := ⟨_, rfl⟩
                obtain ⟨d2, hd2⟩ : ∃ d, d = dueP M y := ⟨_, rfl⟩
                rw [← hd1] at hdu hle
                rw [← hd2] at hdu2 hle
                have q1 : ¬ d1 < d2 := by omega
                have q2 : (y == x) = false := beq_eq_false_iff_ne.2 hne
                have q3 : IntKind.i64.wrap ((j : Int) + 1 - 1) = (j : Int) := by rw [IntWalk.i64_in _ (by omega)]; omega
                have q4 : (j : Int) + 1 - 1 = (j : Int) := by omega
                have q5 : (0 : Int) < (j : Int) + 1 := by omega
                have HST2 := Lib.hid hst
                have HDU1 := Lib.hid hdu
                have HDU2 := Lib.hid hdu2
                clear hx hy hd1 hd2 hst hdu hdu2 hle hne
                go_wp2_with fail
                refine HST2.out.mono ?_
                rintro e w5 ⟨rfl, rfl⟩
                go_wp2_with fail
                refine HDU2.out.mono ?_
                rintro e w5 ⟨rfl, rfl⟩
                go_wp2_with fail
                refine HDU1.out.mono ?_
                rintro e w5 ⟨rfl, rfl⟩
                go_wp2_with fail
                exact ⟨⟨j + 2, by omega, by go_num, trivial⟩, by simp [intOf]; omega⟩
            · have hjn : ¬ (j : Int) < (n1 : Int) := by omega
              obtain ⟨ij, hij⟩ : ∃ i : Int, i = (j : Int) := ⟨_, rfl⟩
              clear HCL
              go_wp2_with fail
              go_ret
              exact ⟨rfl, HJ4.out.below⟩
end Go.Proofs.Ytedmfhcjcloolaa
