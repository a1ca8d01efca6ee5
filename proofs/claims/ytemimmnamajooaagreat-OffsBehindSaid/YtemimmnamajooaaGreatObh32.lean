/- A part. -/
import Derived.Test.YtemimmnamajooaaGreatObh30
import Derived.Test.YtemimmnamajooaaGreatObh31
set_option linter.unusedVariables false
set_option linter.unusedSimpArgs false
namespace Go.Proofs.YtemimmnamajooaaGreat
open Go.RowKit Go.Deep
theorem OI.far {S : Nat → Prop} {w w' : World} {g : Gh} {st : St} {ob : Nat} {v : Value} {l : OL} (h : OI w g st ob v l) (hc : Chg S w w') (hn : ∀ k, OS g ob v k → ¬ S k) : OI w' g st ob v l :=
  ⟨h.disk.chg hc (fun k hk => hn k (.inl hk)), ⟨h.head.at_.chg hc (hn ob (.inr (.inl rfl))), h.head.row.chg hc (fun k hk => hn k (.inr (.inr hk)))⟩, h.outT, h.outV⟩
theorem OI.lt {w : World} {g : Gh} {st : St} {ob : Nat} {v : Value} {l : OL} (h : OI w g st ob v l) : ∀ k, OS g ob v k → k < w.heap.size := fun k hk => by
  rcases hk with hk | hk | hk
  · exact h.disk.lt k hk
  · rw [hk]; exact h.head.at_.lt
  · exact h.head.row.lt k hk
structure Two (w0 w : World) (ga gb : Gh) (sa sb : St) (oa ob : Nat) (va vb : Value) (la lb : OL) : Prop where
  a : NI w0 w ga sa oa va la
  b : NI w0 w gb sb ob vb lb
  ap : ∀ k, OS ga oa va k → ¬ OS gb ob vb k
theorem Two.swap {w0 w : World} {ga gb : Gh} {sa sb : St} {oa ob : Nat} {va vb : Value} {la lb : OL} (h : Two w0 w ga gb sa sb oa ob va vb la lb) : Two w0 w gb ga sb sa ob oa vb va lb la := ⟨h.b, h.a, fun k hk hk2 => h.ap k hk2 hk⟩
theorem Two.new {w0 w w' : World} {ga gb : Gh} {sa sb : St} {oa ob : Nat} {va vb : Value} {la lb : OL} (h : Two w0 w ga gb sa sb oa ob va vb la lb) (hc : Chg (fun _ => False) w w') : Two w0 w' ga gb sa sb oa ob va vb la lb := ⟨h.a.new hc, h.b.new hc, h.ap⟩
theorem Two.left {w0 w w' : World} {ga gb ga' : Gh} {sa sb sa' : St} {oa ob : Nat} {va vb va' : Value} {la lb la' : OL} (h : Two w0 w ga gb sa sb oa ob va vb la lb) (h' : NI w0 w' ga' sa' oa va' la') (ht : OTo ga ga' oa va va' w w') : Two w0 w' ga' gb sa' sb oa ob va' vb la' lb := by
  have hb := h.b.oi.far ht.chg (fun k hk hs => h.ap k hs hk)
  have hz := h.b.chg.size
  refine ⟨h', ⟨hb, h.b.chg.trans ht.chg (fun i hi hx => by have := h.a.low i hx; omega), h.b.low⟩, fun k hk hk2 => ?_⟩
  have hlt := h.b.oi.lt k hk2
  rcases hk with hk | hk | hk
  · rcases ht.fp k hk with e | e
    · exact h.ap k (.inl e) hk2
    · omega
  · exact h.ap k (.inr (.inl hk)) hk2
  · rcases ht.own k hk with e | e
    · exact h.ap k (.inr (.inr e)) hk2
    · omega
theorem Two.right {w0 w w' : World} {ga gb gb' : Gh} {sa sb sb' : St} {oa ob : Nat} {va vb vb' : Value} {la lb lb' : OL} (h : Two w0 w ga gb sa sb oa ob va vb la lb) (h' : NI w0 w' gb' sb' ob vb' lb') (ht : OTo gb gb' ob vb vb' w w') : Two w0 w' ga gb' sa sb' oa ob va vb' la lb' := (h.swap.left h' ht).swap
theorem oset_ni2 {w0 w : World} {g : Gh} {st : St} {ob : Nat} {v : Value} {l : OL} (x : OfM) (h : NI w0 w g st ob v l) (hl : OOk l) (h1 : x.g.size ≤ maxLen) (h2 : x.t.size ≤ maxLen) :
    Calls Tryz.prog 12 #[.pointer (some ⟨ob, 0, none⟩), .agg (oenc x).toArray] w fun e w' => e = .returned (.int .i64 (osE l x)) ∧ ∃ v', NI w0 w' g st ob v' (osL l x) ∧ OTo g g ob v v' w w' := by
  refine (set_any x h.oi.head hl.ris hl.len h1 h2).mono ?_
  rintro e w' ⟨he, v', hs⟩
  obtain ⟨a, b⟩ := h.oi.set hs
  exact ⟨he, v', h.to a b, b⟩
theorem app_arg {w : World} {u v : Value} {a b : OL} (h : ORow w u a) (hv : OArg w v b) (hl : a.length + b.length ≤ 1000) (ty : TypeId) :
    ∃ v' w', (Builtin.append_ #[30, 30] ty #[u, v]).run Tryz.prog w = .ok v' w' ∧ ORow w' v' (a ++ b) ∧ w.grownBy w' u.ownBlock ∧ (v'.ownBlock = u.ownBlock ∨ v'.ownBlock = some w.heap.size) := by
  obtain ⟨i0, hi, hz0, hz1, hz2⟩ := oinfo_parts info_off
  obtain ⟨ad, cap, rfl, hc, hb⟩ := hv
  rcases hb with rfl | ⟨bb, o, rfl, hb⟩
  · refine ⟨u, w, ?_, by rw [List.append_nil]; exact h, grownBy_refl _ _, .inl rfl⟩
    obtain ⟨p, c, rfl⟩ := h.len
    have h63 : a.length ≤ c := by
      rcases h.form with ⟨e, e2⟩ | ⟨g, c2, e, _, h3, _⟩
      · rw [e2]; exact Nat.zero_le _
      · injection e with _ _ e3; rw [e3]; exact h3
    have hle : (a.length : Int) ≤ 9223372036854775807 := by omega
    cases p <;> cases ad <;> simp [Builtin.append_, run_underlying Tryz.underlying30, sizeOf, typeInfo, hi, Builtin.lenOf, Builtin.firstCells, storeCells, h63, loadCells, loadCellsFrom]
  · have hcell : ∀ j u, (ocs b)[j]? = some u → w.cell? ((⟨bb, o, none⟩ : Addr).add j) = some u := fun j u hu => by
      rw [vadd_none]
      have hj : j < b.length * 4 := by
        have := (List.getElem?_eq_some_iff.1 hu).1
        rwa [ocs_len] at this
      have e1 : j = j / 4 * 4 + j % 4 := by omega
      rw [e1, ocs_get b (j / 4) (j % 4) (by omega)] at hu
      obtain ⟨x, hx⟩ : ∃ x, b[j / 4]? = some x := ⟨_, List.getElem?_eq_getElem (by omega)⟩
      rw [hx] at hu
      have := (hb _ _ hx).all (j % 4) u hu
      rw [show o + j = o + j / 4 * 4 + j % 4 by omega]
      exact this
    obtain ⟨v', w', hr, k1, k2, _, k3⟩ := run_append_own_at (P := Tryz.prog) (w := w) 0 30 ty 32 i0 _ 4 48 Tryz.underlying30 hi hz0 hz1 hz2 rfl (by decide) u a.length (ocs a) h ⟨bb, o, none⟩ b.length cap (ocs b) (by rw [ocs_len]) hcell (ocs_one b) (by unfold maxLen; omega) (by omega) (Nat.zero_le _)
    refine ⟨v', w', hr, ?_, k2, k3⟩
    unfold ORow
    rw [ocs_append, List.length_append]
    exact k1
theorem find_get {l : OL} (h : Rising l) (x : OfM) : (findO l x = -1 ∧ getO l x.g x.t x.q = 0) ∨ ∃ (j : Nat) (y : OfM), findO l x = (j : Int) ∧ l[j]? = some y ∧ getO l x.g x.t x.q = y.a := by
  rcases findO_spec l x with ⟨h1, h2⟩ | ⟨j, y, h1, h2, h3⟩
  · exact .inl ⟨h1, getO_none h fun y hy e => h2 y hy ⟨e.1, e.2.1, e.2.2⟩⟩
  · exact .inr ⟨j, y, h1, h2, getO_mem h (List.mem_of_getElem? h2) ⟨h3.1, h3.2.1, h3.2.2⟩⟩
def gr1 : St := createS (newSt 5000) grpF
def gr2 (raw : ByteArray) : St := writeS gr1 grpF 0 raw
theorem gr_facts (raw : ByteArray) (h1 : raw.size ≤ 4000) (h0 : raw.size ≠ 0) :
    createE (newSt 5000) grpF = 0 ∧ Good 1 gr1 ∧ writeE gr1 grpF 0 raw = 0 ∧ (gr2 raw).down = false ∧ (∃ F, (gr2 raw).find grpF = some F ∧ F.bytes = raw.data.toList) ∧ ∀ F, gr1.find grpF = some F → F.bytes.length ≤ 1073741824 ∧ F.writes.length ≤ 1073741824 := by
  have k0 := Ease.new 5000
  have f0 : (newSt 5000).find grpF = none := rfl
  have c1 : createE (newSt 5000) grpF = 0 := by unfold createE; rw [if_neg (by show ¬ (newSt _).down = true; rw [k0.down]; simp), if_neg (by rw [f0]; simp)]; exact k0.burnE
  have c2 : gr1 = { newSt 5000 with fs := [(grpF, emptyF)] } := by unfold gr1 createS; rw [if_neg (by show ¬ (newSt _).down = true; rw [k0.down]; simp), if_neg (by rw [f0]; simp), if_pos k0.burnE, k0.burnS]; rfl
  have g1 : Good 1 gr1 := k0.good.create _
  have f1 : gr1.find grpF = some emptyF := by rw [c2]; rfl
  have d1 : gr1.down = false := by rw [c2]; rfl
  have l1 : gr1.lit = false := by rw [c2]; rfl
  have b1 : burnE gr1 = 0 := by unfold burnE; rw [if_neg (by rw [l1]; simp)]
  have b2 : burnS gr1 = gr1 := by unfold burnS; rw [if_neg (by rw [l1]; simp)]
  have hcap : gr1.cap = 5000 := by rw [c2]; rfl
  have hsz : gr1.size = 0 := by rw [c2]; rfl
  have hmo : more emptyF (0 : Int).toNat raw.size = raw.size := by unfold more emptyF; simp
  have e2 : writeE gr1 grpF 0 raw = 0 := by
    unfold writeE
    rw [if_neg (by rw [d1]; simp), f1]
    simp only
    rw [if_neg (by simp [emptyF]), if_neg (by rw [hmo, hcap, hsz]; omega), b1]
  have hw : gr2 raw = { gr1 with size := gr1.size + raw.size, turn := gr1.turn + 1, fs := setF gr1.fs grpF (addF emptyF ⟨(gr1.turn : Int) + 1, 0, raw⟩) } := by
    unfold gr2 writeS
    rw [if_neg (by rw [d1]; simp), f1]
    simp only
    rw [if_neg (by simp [emptyF]), if_neg (by rw [hmo, hcap, hsz]; omega), if_pos b1, b2, hmo, if_neg h0]
    rfl
  refine ⟨c1, g1, e2, by rw [hw]; exact d1, ?_, fun F hF => by rw [f1] at hF; injection hF with hF; rw [← hF]; exact ⟨by decide, by decide⟩⟩
  rw [hw]
  refine ⟨_, fd_setF_same _ f1, ?_⟩
  show putB [] 0 raw.data.toList = _
  simp [putB]
theorem open_cases {st : St} (hd : st.down = false) : openE st = 0 ∨ openE st = 4 := by
  unfold openE
  have h : (loadR st grpF).2.2 = 0 ∨ (loadR st grpF).2.2 = 4 := by
    unfold loadR
    rw [if_neg (by rw [hd]; simp)]
    split
    · exact .inl rfl
    · split
      · exact .inl rfl
      · exact .inr rfl
  rcases h with h | h
  · rw [if_neg (by simp [h])]
    split
    · split
      · exact .inl rfl
      · exact .inr rfl
    · exact .inl rfl
  · rw [if_pos (by rw [h]; decide), h]; exact .inr rfl
theorem openT_ok (st : St) : OOk (openT st) := by
  unfold openT
  split
  · cases hq : takeR (loadR st grpF).1 with
    | none => exact OOk.nil
    | some l => exact takeR_ok hq
  · exact OOk.nil
theorem ready_nil (v : Value) (w : World) : Calls Tryz.prog 42 #[.pointer none, v] w fun e w' => e = .returned (.int .i64 1) ∧ w = w' := by
  go_enter Tryz.func42, Tryz.ntmps42
  go_wp2_with fail
  go_ret
  exact ⟨rfl, rfl⟩
theorem dfind_nil (nm : ByteArray) (w : World) : Calls Tryz.prog 44 #[.pointer none, .string nm] w fun e w' => e = .returned (.tuple #[.pointer none, .int .i64 1]) ∧ Below w.heap.size w w' := by
  have HR := Lib.hid (fun v W => ready_nil v W)
  go_enter Tryz.func44, Tryz.ntmps44
  go_wp2_with fail
  refine (HR.out _ _).mono ?_
  rintro e w2 ⟨rfl, rfl⟩
  go_wp2_with fail
  go_ret2
  exact ⟨rfl, (Below.refl _ _).alloc (Nat.le_refl _) _⟩
theorem dall_nil (nm : ByteArray) (w : World) : Calls Tryz.prog 52 #[.pointer none, .string nm] w fun e w' => e = .returned (.tuple #[.string ⟨#[]⟩, .int .i64 1]) ∧ Below w.heap.size w w' := by
  have HR := Lib.hid (dfind_nil nm w)
  go_enter Tryz.func52, Tryz.ntmps52
  go_wp2_with fail
  refine HR.out.mono ?_
  rintro e w2 ⟨rfl, hb2⟩
  have HB := Lib.hid hb2
  clear hb2
  go_wp2_with fail
  go_ret2
  exact ⟨rfl, HB.out⟩
theorem open_nil (w : World) : Calls Tryz.prog 9 #[.pointer none] w fun e w' => e = .returned (.tuple #[.pointer none, .int .i64 1]) ∧ Below w.heap.size w w' := by
  have hL : Calls Tryz.prog 27 #[.pointer none, .string ⟨#[103, 114, 111, 117, 112, 115]⟩] w fun e w' => e = .returned (.tuple #[.string ⟨#[]⟩, .bool false, .int .i64 1]) ∧ Below w.heap.size w w' := by
    have HA := Lib.hid (dall_nil ⟨#[103, 114, 111, 117, 112, 115]⟩ w)
    go_enter Tryz.func27, Tryz.ntmps27
    go_wp2_with fail
    refine HA.out.mono ?_
    rintro e w2 ⟨rfl, hb2⟩
    have HB := Lib.hid hb2
    clear hb2
    go_wp2_with fail
    go_ret3
    exact ⟨rfl, HB.out⟩
  have HL := Lib.hid hL
  clear hL
  go_enter Tryz.func9, Tryz.ntmps9
  go_wp2_with fail
  refine HL.out.mono ?_
  rintro e w2 ⟨rfl, hb2⟩
  have HB := Lib.hid hb2
  clear hb2
  go_wp2_with fail
  go_ret2
  exact ⟨rfl, HB.out⟩
theorem orow_empty {w : World} {g : Nat} (hg : w.heap[g]? = some (.cells #[] 32 (0, 0))) : ORow w (.slice (some ⟨g, 0, none⟩) 0 0) [] :=
  ⟨rfl, .inr ⟨g, 0, #[], rfl, Nat.zero_le _, hg, Nat.le_refl _, Nat.zero_le _, rfl, rfl⟩⟩
set_option maxRecDepth 100000 in
theorem two_append {w : World} {u v : Value} {a b : OL} (hu : OArg w u a) (hv : OArg w v b) (hl : a.length ≤ 60) (hl2 : b.length ≤ 60) (ty ty2 : TypeId) :
    ∃ v1 w1, (Builtin.append_ #[30, 30] ty #[.slice (some ⟨w.heap.size, 0, none⟩) 0 0, u]).run Tryz.prog (w.alloc (.cells #[] 32)) = .ok v1 w1 ∧
      ∃ v2 w2, (Builtin.append_ #[30, 30] ty2 #[v1, v]).run Tryz.prog w1 = .ok v2 w2 ∧ ORow w2 v2 (a ++ b) ∧ Below w.heap.size w w2 := by
  have hb0 : Below w.heap.size w (w.alloc (.cells #[] 32)) := (Below.refl _ _).alloc (Nat.le_refl _) _
  have h0 : ORow (w.alloc (.cells #[] 32)) (.slice (some ⟨w.heap.size, 0, none⟩) 0 0) [] := orow_empty (heap_alloc_new w _)
  obtain ⟨v1, w1, hr1, k1, g1, o1⟩ := app_arg h0 (hu.keep hb0) (by simp; omega) ty
  have c1 : Chg (fun k => k = w.heap.size) (w.alloc (.cells #[] 32)) w1 := Chg.of_grown g1 (fun k hk _ => by injection hk with hk; exact hk.symm)
  have hb1 : Below w.heap.size w w1 := hb0.trans (Chg.below c1 (fun k _ e => by omega) (by rw [World.size_alloc]; omega))
  have hz1 := c1.size
  rw [World.size_alloc] at hz1
  obtain ⟨v2, w2, hr2, k2, g2, o2⟩ := app_arg k1 (hv.keep hb1) (by simp; omega) ty2
  refine ⟨v1, w1, hr1, v2, w2, hr2, by simpa using k2, hb1.trans ?_⟩
  have c2 : Chg (fun k => v1.ownBlock = some k) w1 w2 := Chg.of_grown g2 (fun k hk _ => hk)
  refine Chg.below c2 (fun k _ e => ?_) hb1.size
  rcases o1 with e1 | e1
  · have e : some w.heap.size = some k := e1.symm.trans e
    injection e with e; omega
  · rw [e1, World.size_alloc] at e; injection e with e; omega
set_option maxRecDepth 100000 in
set_option maxHeartbeats 16000000 in
theorem walk_OffsBehind (v1 : Value) (ls : OL) (v2 : Value) (es : OL) (s : ByteArray) (w : World) (hv1 : OArg w v1 ls) (hl1 : ls.length ≤ maxLen) (hw1 : ∀ x ∈ ls, OWf x) (hv2 : OArg w v2 es) (hl2 : es.length ≤ maxLen) (hw2 : ∀ x ∈ es, OWf x) (hs : s.size ≤ maxLen) :
    Calls Tryz.prog 4 #[v1, v2, .string s] w fun e w' => e = .returned (.bool true) ∧ Below w.heap.size w w' := by
  have hA1 : ∀ W, Below w.heap.size w W → OArg W v1 ls := fun W hW => hv1.keep hW
  have hA2 : ∀ W, Below w.heap.size w W → OArg W v2 es := fun W hW => hv2.keep hW
  obtain ⟨a1, cap1, rfl, hcap1⟩ := hv1.len
  obtain ⟨a2, cap2, rfl, hcap2⟩ := hv2.len
  obtain ⟨n, hn⟩ : ∃ n, n = ls.length := ⟨_, rfl⟩
  obtain ⟨m, hm⟩ : ∃ m, m = es.length := ⟨_, rfl⟩
  rw [← hn] at hA1 hl1 hcap1 ⊢
  rw [← hm] at hA2 hl2 hcap2 ⊢
  have HA1 := Lib.hid hA1
  have HA2 := Lib.hid hA2
  have HN := Lib.hid hn
  have HM := Lib.hid hm
  have HW1 := Lib.hid hw1
  have HW2 := Lib.hid hw2
  have hn64 : (n : Int) ≤ 9223372036854775807 := by unfold maxLen at hl1; omega
  have hm64 : (m : Int) ≤ 9223372036854775807 := by unfold maxLen at hl2; omega
  have hs64 : (s.size : Int) ≤ 9223372036854775807 := by unfold maxLen at hs; omega
  clear hA1 hA2 hn hm hv1 hv2 hl1 hl2 hw1 hw2
  obtain ⟨q1, hq1⟩ : ∃ q1, decide ((60 : Int) < (n : Int)) = q1 := ⟨_, rfl⟩
  obtain ⟨q2, hq2⟩ : ∃ q2, decide ((60 : Int) < (m : Int)) = q2 := ⟨_, rfl⟩
  obtain ⟨q3, hq3⟩ : ∃ q3, decide ((2000 : Int) < (s.size : Int)) = q3 := ⟨_, rfl⟩
  by_cases hbig : (q1 || (q2 || q3)) = true
  · cases q1 <;> cases q2 <;> cases q3
    · cases hbig
    all_goals
      clear hbig
      go_enter Tryz.func4, Tryz.ntmps4
      go_wp2_with fail
      refine (awake_o w).mono ?_
      rintro e w1 ⟨rfl, hb1⟩
      have HB1 := Lib.hid hb1
      clear hb1
      go_wp2_with fail
      go_ret
      exact ⟨rfl, HB1.out⟩
  · obtain rfl : q1 = false := by cases q1 <;> simp_all
    obtain rfl : q2 = false := by cases q2 <;> simp_all
    obtain rfl : q3 = false := by cases q3 <;> simp_all
    have hn60 : n ≤ 60 := by have := of_decide_eq_false hq1; omega
    have hm60 : m ≤ 60 := by have := of_decide_eq_false hq2; omega
    have hs20 : s.size ≤ 2000 := by have := of_decide_eq_false hq3; omega
    clear hbig
    go_enter Tryz.func4, Tryz.ntmps4
    go_wp2_with fail
    refine (awake_o w).mono ?_
    rintro e w1 ⟨rfl, hb1⟩
    have HB1 := Lib.hid hb1
    clear hb1
    go_wp2_with fail
    refine (new_any 1000 w1).mono ?_
    rintro e w2 ⟨rfl, hd2, hb2⟩
    obtain ⟨d, hd⟩ : ∃ d, d = w1.heap.size := ⟨_, rfl⟩
    have hc2 : Chg (fun _ => False) w w2 := (Chg.of_below HB1.out).trans (Chg.of_below hb2) (fun _ _ e => e)
    have hO := open_saved (w0 := w) (g := ⟨w1.heap.size, none, []⟩) hd2 hc2 (fun k hk => by have := HB1.out.size; simp [Gh.fp] at hk; omega) (.inl ⟨rfl, rfl⟩) OOk.nil rfl
    have HO := Lib.hid hO
    have HDD := Lib.hid hd
    clear hd2 hb2 hc2 hO hd hq1 hq2 hq3
    go_wp2_with fail
    rw [← HDD.out] at HO
    rw [← HDD.out]
    refine HO.out.mono ?_
    rintro e w3 ⟨_, ob, v3, rfl, _, _, h3⟩
    have HI3 := Lib.hid h3
    obtain ⟨u1, W1, hr1, u2, W2, hr2, hrow, hbW⟩ := two_append (HA1.out w3 h3.below) (HA2.out w3 h3.below) (by have := HN.out; omega) (by have := HM.out; omega) 30 30
    have HIW := Lib.hid (HI3.out.new (Chg.of_below hbW))
    obtain ⟨ua, uc, hu2⟩ := hrow.len
    subst hu2
    obtain ⟨t, ht⟩ : ∃ t, t = (ls ++ es).length := ⟨_, rfl⟩
    have ht120 : t ≤ 120 := by rw [ht, List.length_append, ← HN.out, ← HM.out]; omega
    rw [← ht] at hrow hr2
    have HROW : Hid (∀ W, Below W2.heap.size W2 W → ORow W (.slice ua t uc) (ls ++ es)) := Lib.hid (fun W hW => hrow.new hW)
    have HTT := Lib.hid ht
    have HRA := Lib.hid hr1
    have HRB := Lib.hid hr2
    clear h3 hbW hrow hr1 hr2 ht
    go_wp2_with (first
      | (at_builtin; refine Lib.wpList_append_run _ rfl _ _ _ _ rfl _ _ rfl rfl _ _ HRA.out ?_)
      | (at_builtin; refine Lib.wpList_append_run _ rfl _ _ _ _ rfl _ _ rfl rfl _ _ HRB.out ?_))
    go_loopw [53] (fun i wr => ∃ k : Nat, k ≤ t ∧ i = .int .i64 (k : Int) ∧ Hid (Below W2.heap.size W2 wr)) (fun i _ => t - (intOf i).toNat)
    case atStart => exact ⟨0, Nat.zero_le _, rfl, Lib.hid (Below.refl _ _)⟩
    case round =>
      obtain ⟨k, hk, rfl, HB⟩ := hrel
      by_cases hlt : k < t
      · obtain ⟨x, hx⟩ : ∃ x, (ls ++ es)[k]? = some x := ⟨_, List.getElem?_eq_getElem (by rw [← HTT.out]; exact hlt)⟩
        obtain ⟨g, rfl, hc⟩ := (HROW.out wr HB.out).at_ hx
        obtain ⟨c0, c1, c2, c3⟩ := hc
        obtain ⟨x1, x2, x3, x4⟩ := x
        try dsimp only at c0 c1 c2 c3
        obtain ⟨w6, hw6⟩ : ∃ w6, w6 = wr.alloc (.cells #[.string x1, .string x2, .int .i64 x3, .int .i64 x4] 32) := ⟨_, rfl⟩
        obtain ⟨xb, hxb⟩ : ∃ xb, xb = wr.heap.size := ⟨_, rfl⟩
        have hb6 : Below W2.heap.size W2 w6 := by rw [hw6]; exact HB.out.alloc HB.out.size _
        have f0 : w6.cell? ⟨xb, 0, none⟩ = some (.string x1) := by rw [hw6, hxb]; simp [go_sem]
        have f1 : w6.cell? ⟨xb, 1, none⟩ = some (.string x2) := by rw [hw6, hxb]; simp [go_sem]
        have HB6 := Lib.hid hb6
        have HW6 := Lib.hid hw6
        have HXB := Lib.hid hxb
        obtain ⟨p1, hp1⟩ : ∃ p1, decide ((100 : Int) < (x1.size : Int)) = p1 := ⟨_, rfl⟩
        obtain ⟨p2, hp2⟩ : ∃ p2, decide ((100 : Int) < (x2.size : Int)) = p2 := ⟨_, rfl⟩
        clear hb6 hw6 hxb hx
        cases p1 <;> cases p2
        all_goals
          go_upto_region 11 with fail
          rw [← HW6.out, ← HXB.out]
          go_wp2_with fail
          first
            | exact ⟨⟨k + 1, by omega, by go_num, HB6⟩, by simp [intOf]; omega⟩
            | (go_ret
               exact ⟨rfl, (HIW.out.new (Chg.of_below HB6.out)).below⟩)
      · have HI4 := Lib.hid (HIW.out.new (Chg.of_below HB.out))
        go_wp2_with fail
        go_loopw [70] (fun i wr => ∃ k : Nat, k ≤ n ∧ i = .int .i64 (k : Int) ∧ ∃ v' l, Hid (NI w wr ⟨d, none, []⟩ (newSt 1000) ob v' l) ∧ Hid (OOk l)) (fun i _ => n - (intOf i).toNat)
        case atStart => exact ⟨0, Nat.zero_le _, rfl, v3, [], HI4, Lib.hid OOk.nil⟩
        case round =>
          obtain ⟨k, hk, rfl, v', l, HI, HOK⟩ := hrel
          by_cases hlt : k < n
          · obtain ⟨x, hx⟩ : ∃ x, ls[k]? = some x := ⟨_, List.getElem?_eq_getElem (by rw [← HN.out]; exact hlt)⟩
            obtain ⟨b, o, rfl, hc⟩ := (HA1.out wr HI.out.below).at_ hx
            obtain ⟨c0, c1, c2, c3⟩ := hc
            obtain ⟨w6, hw6⟩ : ∃ w6, w6 = wr.alloc (.cells #[.string x.g, .string x.t, .int .i64 x.q, .int .i64 x.a] 32) := ⟨_, rfl⟩
            obtain ⟨xb, hxb⟩ : ∃ xb, xb = wr.heap.size := ⟨_, rfl⟩
            have hb6 : Below wr.heap.size wr w6 := by rw [hw6]; exact (Below.refl _ _).alloc (Nat.le_refl _) _
            have f0 : w6.cell? ⟨xb, 0, none⟩ = some (.string x.g) := by rw [hw6, hxb]; simp [go_sem]
            have f1 : w6.cell? ⟨xb, 1, none⟩ = some (.string x.t) := by rw [hw6, hxb]; simp [go_sem]
            have f2 : w6.cell? ⟨xb, 2, none⟩ = some (.int .i64 x.q) := by rw [hw6, hxb]; simp [go_sem]
            have f3 : w6.cell? ⟨xb, 3, none⟩ = some (.int .i64 x.a) := by rw [hw6, hxb]; simp [go_sem]
            have hw := HW1.out x (List.mem_of_getElem? hx)
            have hset := oset_ni2 x (HI.out.new (Chg.of_below hb6)) HOK.out hw.2.2.1 hw.2.2.2
            have hok2 := HOK.out.set x
            obtain ⟨er, her⟩ : ∃ er, er = osE l x := ⟨_, rfl⟩
            obtain ⟨l2, hl2⟩ : ∃ l2, l2 = osL l x := ⟨_, rfl⟩
            rw [← her, ← hl2] at hset
            rw [← hl2] at hok2
            obtain ⟨x1, x2, x3, x4⟩ := x
            unfold oenc at hset
            try dsimp only at c0 c1 c2 c3 f0 f1 f2 f3 hset hw6
            have HSET := Lib.hid hset
            have HOK2 := Lib.hid hok2
            have HW6 := Lib.hid hw6
            have HXB := Lib.hid hxb
            clear hset hok2 hw6 hxb hb6 her hl2 hx hw
            go_upto_region 17 with fail
            rw [← HW6.out, ← HXB.out]
            go_wp2_with fail
            refine HSET.out.mono ?_
            rintro e w7 ⟨rfl, v7, h7, _⟩
            have HI7 := Lib.hid h7
            clear h7 f0 f1 f2 f3 c0 c1 c2 c3
            go_wp2_with fail
            exact ⟨⟨k + 1, by omega, by go_num, v7, l2, HI7, HOK2⟩, by simp [intOf]; omega⟩
          · have hGx : ∀ W, Below wr.heap.size wr W → NI w W ⟨d, none, []⟩ (newSt 1000) ob v' l := fun W hW => HI.out.new (Chg.of_below hW)
            have HNI := Lib.hid hGx
            have HLR := Lib.hid HOK.out.ris
            have hl64 := HOK.out.len
            have hok : AllOk l := HOK.out.ok
            have HAK := Lib.hid hok
            obtain ⟨wA, hwA⟩ : ∃ wA, wA = wr := ⟨_, rfl⟩
            subst hwA
            clear hGx hok
            go_wp2_with fail
            go_loopw [13, 80] (fun sv i wr => ∃ k : Nat, k ≤ m ∧ i = .int .i64 (k : Int) ∧ (∃ sk : Int, sv = .int .i64 sk ∧ Hid (sk = leftsO l (es.take k)) ∧ 0 ≤ sk ∧ sk ≤ 1099511627776 * k) ∧ Hid (Below wA.heap.size wA wr)) (fun _ i _ => m - (intOf i).toNat)
            case atStart => exact ⟨0, Nat.zero_le _, rfl, ⟨0, rfl, Lib.hid (by rw [List.take_zero]; rfl), by omega, by omega⟩, Lib.hid (Below.refl _ _)⟩
            case round =>
              obtain ⟨k3, hk3, rfl, ⟨sk, rfl, HSK, hs0, hs1⟩, HB⟩ := hrel
              by_cases hlt3 : k3 < m
              · obtain ⟨x, hx⟩ : ∃ x, es[k3]? = some x := ⟨_, List.getElem?_eq_getElem (by rw [← HM.out]; exact hlt3)⟩
                obtain ⟨b, o, rfl, hc⟩ := (HA2.out wr (HNI.out wr HB.out).below).at_ hx
                obtain ⟨c0, c1, c2, c3⟩ := hc
                obtain ⟨hx1, hx2⟩ := wf_in (HW2.out x (List.mem_of_getElem? hx)).2.1
                have hnx := leftsO_take l es k3 x hx
                have hgi := getO_in HAK.out x.g x.t x.q
                have hli := leftO_in HAK.out x
                have hsi := leftsO_in HAK.out (es.take (k3 + 1))
                rw [List.length_take, ← HM.out, Nat.min_eq_left (by omega)] at hsi
                have hlx : leftO l x = if getO l x.g x.t x.q < min x.a 1099511627776 then min x.a 1099511627776 - getO l x.g x.t x.q else 0 := rfl
                have hfg := find_get HLR.out x
                have hfnd : ∀ W v', ORow W v' l → Calls Tryz.prog 11 #[v', .agg (oenc x).toArray] W fun e w' => e = .returned (.int .i64 (findO l x)) ∧ Below W.heap.size W w' := fun W v' hW => find_any x hW.arg (by omega)
                have hall : ∀ W, Below wA.heap.size wA W → Calls Tryz.prog 18 #[.pointer (some ⟨ob, 0, none⟩)] W (CloneTo W l) := fun W hW => oall_any (HNI.out W hW).oi.head (by omega)
                obtain ⟨gv, hgv⟩ : ∃ gv, gv = getO l x.g x.t x.q := ⟨_, rfl⟩
                obtain ⟨fi, hfi⟩ : ∃ fi, fi = findO l x := ⟨_, rfl⟩
                rw [← hgv] at hgi hlx hfg
                rw [← hfi] at hfg hfnd
                obtain ⟨mn, hmn⟩ : ∃ mn : Int, mn = min x.a 1099511627776 := ⟨_, rfl⟩
                rw [← hmn] at hlx
                have hm1 : mn ≤ 1099511627776 := by omega
                have hm2 : -9223372036854775808 ≤ mn := by omega
                obtain ⟨w6, hw6⟩ : ∃ w6, w6 = wr.alloc (.cells #[.string x.g, .string x.t, .int .i64 x.q, .int .i64 x.a] 32) := ⟨_, rfl⟩
                obtain ⟨xb, hxb⟩ : ∃ xb, xb = wr.heap.size := ⟨_, rfl⟩
                have hb6 : Below wA.heap.size wA w6 := by rw [hw6]; exact HB.out.alloc HB.out.size _
                have f0 : w6.cell? ⟨xb, 0, none⟩ = some (.string x.g) := by rw [hw6, hxb]; simp [go_sem]
                have f1 : w6.cell? ⟨xb, 1, none⟩ = some (.string x.t) := by rw [hw6, hxb]; simp [go_sem]
                have f2 : w6.cell? ⟨xb, 2, none⟩ = some (.int .i64 x.q) := by rw [hw6, hxb]; simp [go_sem]
                have f3 : w6.cell? ⟨xb, 3, none⟩ = some (.int .i64 x.a) := by rw [hw6, hxb]; simp [go_sem]
                obtain ⟨lx, hlxe⟩ : ∃ lx, lx = leftO l x := ⟨_, rfl⟩
                rw [← hlxe] at hnx hlx hli
                obtain ⟨sn, hsn⟩ : ∃ sn, sn = leftsO l (es.take (k3 + 1)) := ⟨_, rfl⟩
                rw [← hsn] at hnx hsi
                have hsum : sn = sk + lx := by rw [hnx, HSK.out]
                obtain ⟨x1, x2, x3, x4⟩ := x
                unfold oenc at hfnd
                try dsimp only at c0 c1 c2 c3 f0 f1 f2 f3 hw6 hfnd hmn
                have hmin := hmn.symm
                have HW6 := Lib.hid hw6
                have HXB := Lib.hid hxb
                have HB6 := Lib.hid hb6
                have HSN := Lib.hid hsn
                have HFND := Lib.hid hfnd
                have HALL := Lib.hid hall
                have HFG := Lib.hid hfg
                have HBB : Hid (Below w6.heap.size w6 w6) := Lib.hid (Below.refl _ _)
                clear hw6 hxb hb6 hsn hnx hgv hlxe hx hx1 hx2 hfnd hall hfg hfi hmn
                go_upto_region 24 with fail
                rw [← HW6.out, ← HXB.out]
                go_cut [17] from 84 to 87 (fun t wx => t = .int .i64 fi ∧ Below w6.heap.size w6 wx)
                case first =>
                  go_region_held3 (fun w' => w'.cell? ⟨xb, 0, none⟩ = some (.string x1) ∧ w'.cell? ⟨xb, 1, none⟩ = some (.string x2) ∧ w'.cell? ⟨xb, 2, none⟩ = some (.int .i64 x3) ∧ w'.cell? ⟨xb, 3, none⟩ = some (.int .i64 x4))
                    (first | exact ⟨f0, f1, f2, f3⟩ | go_keep)
                    (first
                      | (go_at_call 18
                         refine (HALL.out _ ?_).mono ?_
                         · repeat (first | exact HB6.out | with_reducible refine below_drewN ?_ _ | with_reducible refine below_drew0 ?_)
                         rintro e w8 ⟨vA, rfl, hrA, hb8, _⟩
                         have HRA8 := Lib.hid hrA
                         have f0 := ukeep hb8 f0
                         have f1 := ukeep hb8 f1
                         have f2 := ukeep hb8 f2
                         have f3 := ukeep hb8 f3)
                      | (go_at_call 11
                         refine (HFND.out _ _ ?_).mono ?_
                         · exact HRA8.out
                         rintro e w9 ⟨rfl, hb9⟩
                         have f0 := ukeep hb9 f0
                         have f1 := ukeep hb9 f1
                         have f2 := ukeep hb9 f2
                         have f3 := ukeep hb9 f3))
                  all_goals
                    go_wp2_with fail
                    go_meet
                    exact ⟨rfl, by
                      have h8 : Below w6.heap.size w6 w8 := ubelow_on hb8 (by repeat (first | exact HBB.out | with_reducible refine below_drewN ?_ _ | with_reducible refine below_drew0 ?_)) (Nat.le_refl _)
                      have h9 : Below w6.heap.size w6 w9 := ubelow_on hb9 (by repeat (first | exact h8 | with_reducible refine below_drewN ?_ _ | with_reducible refine below_drew0 ?_)) (Nat.le_refl _)
                      repeat (first | exact h9 | with_reducible refine below_drewN ?_ _ | with_reducible refine below_drew0 ?_)⟩
                case rest =>
                  obtain ⟨rfl, hb⟩ := hcut
                  have g3 := ukeep hb f3
                  have HBX := Lib.hid (ubelow_on hb HB6.out (Nat.le_refl _))
                  clear hb f0 f1 f2 f3 c0 c1 c2 c3
                  rcases HFG.out with ⟨e1, e2⟩ | ⟨j, y, e1, hy, e2⟩
                  · subst e1
                    have hgv0 : gv = 0 := e2
                    subst hgv0
                    rw [Int.sub_zero] at hlx
                    by_cases hgm : (0 : Int) < mn
                    · rw [if_pos hgm] at hlx
                      have hsub : sk + (mn) = sn := by omega
                      have hs2 : 0 ≤ mn := by omega
                      have hs3 : mn ≤ 1099511627776 := by omega
                      have hs4 : 0 ≤ sn := by omega
                      have hs5 : sn ≤ 9223372036854775807 := by omega
                      have hwr : IntKind.i64.wrap (sk + (mn)) = sn := by rw [IntKind.wrap_i64]; omega
                      have HSUB := Lib.hid hsub
                      clear hsub
                      have HR : Hid (0 ≤ sn ∧ sn ≤ 1099511627776 * (k3 + 1)) := Lib.hid (by omega)
                      go_wp2_with fail
                      exact ⟨⟨k3 + 1, by omega, by go_num, ⟨sn, by first | rfl | (rw [HSUB.out]) | (rw [hwr]), HSN, HR.out.1, HR.out.2⟩, HBX⟩, by simp [intOf]; omega⟩
                    · rw [if_neg hgm] at hlx
                      have hsub : sk = sn := by omega
                      have HR : Hid (0 ≤ sn ∧ sn ≤ 1099511627776 * (k3 + 1)) := Lib.hid (by omega)
                      have HSUB := Lib.hid hsub
                      clear hsub
                      go_wp2_with fail
                      exact ⟨⟨k3 + 1, by omega, by go_num, ⟨sn, by rw [HSUB.out], HSN, HR.out.1, HR.out.2⟩, HBX⟩, by simp [intOf]; omega⟩
                  · subst e1
                    have hjl : j < l.length := (List.getElem?_eq_some_iff.1 hy).1
                    have HA9 := Lib.hid (HALL.out wc HBX.out)
                    have hj0 : (0 : Int) ≤ (j : Int) := by omega
                    have hrowc : ∀ W va2, ORow W va2 l → ∃ g c, va2 = .slice (some ⟨g, 0, none⟩) l.length c ∧ W.cell? ⟨g, j * 4 + 3, none⟩ = some (.int .i64 gv) := fun W va2 hW => by
                      obtain ⟨a9, c9, e9⟩ := hW.len
                      rw [e9] at hW
                      obtain ⟨g, e, hc⟩ := hW.at_ hy
                      exact ⟨g, c9, by rw [e9, e], by rw [e2]; exact hc.c3⟩
                    obtain ⟨ln, hln⟩ : ∃ ln, ln = l.length := ⟨_, rfl⟩
                    rw [← hln] at hjl hrowc hl64
                    have hjl2 : (j : Int) < (ln : Int) := by omega
                    have HRC := Lib.hid hrowc
                    have HE2 := Lib.hid e2
                    clear hrowc hln hy e2
                    by_cases hgm : gv < mn
                    · rw [if_pos hgm] at hlx
                      have hsub : sk + (mn - gv) = sn := by omega
                      have hs2 : 0 ≤ mn - gv := by omega
                      have hs3 : mn - gv ≤ 1099511627776 := by omega
                      have hs4 : 0 ≤ sn := by omega
                      have hs5 : sn ≤ 9223372036854775807 := by omega
                      have hwr : IntKind.i64.wrap (sk + (mn - gv)) = sn := by rw [IntKind.wrap_i64]; omega
                      have HSUB := Lib.hid hsub
                      clear hsub
                      have HR : Hid (0 ≤ sn ∧ sn ≤ 1099511627776 * (k3 + 1)) := Lib.hid (by omega)
                      go_wp2_with fail
                      refine HA9.out.mono ?_
                      rintro e w10 ⟨va2, rfl, hr10, hb10, _⟩
                      obtain ⟨g10, c10, rfl, k10⟩ := HRC.out w10 va2 hr10
                      have g3 := ukeep hb10 g3
                      have HBY := Lib.hid (ubelow_on hb10 HBX.out (Nat.le_refl _))
                      clear hr10 hb10
                      go_wp2_with fail
                      exact ⟨⟨k3 + 1, by omega, by go_num, ⟨sn, by first | rfl | (rw [HSUB.out]) | (rw [hwr]), HSN, HR.out.1, HR.out.2⟩, HBY⟩, by simp [intOf]; omega⟩
                    · rw [if_neg hgm] at hlx
                      have hsub : sk = sn := by omega
                      have HR : Hid (0 ≤ sn ∧ sn ≤ 1099511627776 * (k3 + 1)) := Lib.hid (by omega)
                      have HSUB := Lib.hid hsub
                      clear hsub
                      go_wp2_with fail
                      refine HA9.out.mono ?_
                      rintro e w10 ⟨va2, rfl, hr10, hb10, _⟩
                      obtain ⟨g10, c10, rfl, k10⟩ := HRC.out w10 va2 hr10
                      have g3 := ukeep hb10 g3
                      have HBY := Lib.hid (ubelow_on hb10 HBX.out (Nat.le_refl _))
                      clear hr10 hb10
                      go_wp2_with fail
                      exact ⟨⟨k3 + 1, by omega, by go_num, ⟨sn, by rw [HSUB.out], HSN, HR.out.1, HR.out.2⟩, HBY⟩, by simp [intOf]; omega⟩
              · have hkm : k3 = m := by omega
                have hwant : leftsO l es = sk := by rw [HSK.out, hkm, HM.out, List.take_length]
                obtain ⟨raw, hraw⟩ : ∃ raw : ByteArray, raw = ⟨(Cr.sealB s).toArray⟩ := ⟨_, rfl⟩
                have hr : raw.size ≤ 2004 ∧ raw.size ≠ 0 := by rw [hraw, vba_size, Cr.sealB_length]; omega
                obtain ⟨f1, f2, f3, f4, ⟨F, f5, f6⟩, f10⟩ := gr_facts raw (by omega) hr.2
                have hRS : ∀ W, Calls Tryz.prog 23 #[.string s] W fun e w' => e = .returned (.string raw) ∧ Below W.heap.size W w' := fun W => by rw [hraw]; exact Cr.refSeal_any s W (by omega)
                have hCR : ∀ W, DiskAt W ⟨wr.heap.size, none, []⟩ (newSt 5000) → Below wr.heap.size wr W → Calls Tryz.prog 21 #[.pointer (some ⟨wr.heap.size, 0, none⟩), .string ⟨#[103, 114, 111, 117, 112, 115]⟩] W fun e w' => e = .returned (.int .i64 0) ∧ ∃ g', DiskAt w' g' gr1 ∧ (∀ k ∈ g'.fp, wr.heap.size ≤ k) ∧ g'.d = wr.heap.size ∧ Below wr.heap.size wr w' := fun W hd hW => by
                  have := create_any ⟨wr.heap.size, none, []⟩ (newSt 5000) grpF W hd (by decide) (Good.new _).fuse (Nat.zero_le _)
                  rw [f1] at this
                  refine this.mono ?_
                  rintro e w' ⟨he, g', hd', ht⟩
                  have hz := hW.size
                  refine ⟨he, g', hd', fun k hk => ?_, ht.d, hW.trans (Chg.below ht.chg (fun k _ e => ?_) hz)⟩
                  · rcases ht.fp k hk with a | a
                    · simp [Gh.fp] at a; omega
                    · omega
                  · simp [Gh.fp] at e; omega
                have hWR : ∀ W (g : Gh), DiskAt W g gr1 → (∀ k ∈ g.fp, wr.heap.size ≤ k) → g.d = wr.heap.size → Below wr.heap.size wr W → Calls Tryz.prog 22 #[.pointer (some ⟨wr.heap.size, 0, none⟩), .string ⟨#[103, 114, 111, 117, 112, 115]⟩, .int .i64 0, .string raw] W fun e w' => e = .returned (.int .i64 0) ∧ ∃ g', DiskAt w' g' (gr2 raw) ∧ g'.d = wr.heap.size ∧ Below wr.heap.size wr w' := fun W g hd hfp hgd hW => by
                  have := write_any g gr1 grpF 0 raw W hd (by decide) f2.fuse (by omega) f2.cap f2.size (by have := f2.turn; omega) f10
                  rw [f3, hgd] at this
                  refine this.mono ?_
                  rintro e w' ⟨he, g', hd', ht⟩
                  exact ⟨he, g', hd', ht.d.trans hgd, hW.trans (Chg.below ht.chg (fun k _ e => hfp k e) hW.size)⟩
                have hsm : ∀ f, (gr2 raw).find grpF = some f → f.bytes.length ≤ 1000000 := fun f hf => by
                  rw [f5] at hf
                  injection hf with hf
                  rw [← hf, f6, text_len]
                  omega
                have hOP : ∀ W (g : Gh), DiskAt W g (gr2 raw) → g.d = wr.heap.size → Calls Tryz.prog 9 #[.pointer (some ⟨wr.heap.size, 0, none⟩)] W (OpenP g (openE (gr2 raw)) (openT (gr2 raw)) W) := fun W g hd hgd => by
                  rw [← hgd]
                  exact open_any hd hsm
                have hoe := open_cases f4
                have hok := openT_ok (gr2 raw)
                obtain ⟨oe, hoe2⟩ : ∃ oe, oe = openE (gr2 raw) := ⟨_, rfl⟩
                obtain ⟨lx, hlx⟩ : ∃ lx, lx = openT (gr2 raw) := ⟨_, rfl⟩
                rw [← hoe2] at hoe hOP
                rw [← hlx] at hok hOP
                have hBh : ∀ W, Below wr.heap.size wr W → Calls Tryz.prog 24 #[.pointer (some ⟨ob, 0, none⟩), .slice a2 m cap2] W fun e w' => e = .returned (.int .i64 sk) ∧ Below W.heap.size W w' := fun W hW => by
                  have hi := (HNI.out wr HB.out).new (Chg.of_below hW)
                  rw [← hwant]
                  exact behind_any hi.oi.head HLR.out (by omega) HAK.out (HA2.out W hi.below) (by have := HM.out; omega) (fun x hx => wf_in (HW2.out x hx).2.1)
                have hFin : ∀ W, Below wr.heap.size wr W → Below w.heap.size w W := fun W hW => ((HNI.out wr HB.out).new (Chg.of_below hW)).below
                have HRS := Lib.hid hRS
                have HCR := Lib.hid hCR
                have HWR := Lib.hid hWR
                have HOP := Lib.hid hOP
                have HBH := Lib.hid hBh
                have HFI := Lib.hid hFin
                have HXR := Lib.hid hok.ris
                have hx64 := hok.len
                have HNS : Hid (∀ W, Calls Tryz.prog 12 #[.pointer none, .agg #[.string ⟨#[]⟩, .string ⟨#[]⟩, .int .i64 0, .int .i64 0]] W fun e w' => e = .returned (.int .i64 1) ∧ Below W.heap.size W w') := Lib.hid (fun W => oset_nil ⟨⟨#[]⟩, ⟨#[]⟩, 0, 0⟩ W)
                clear hRS hCR hWR hOP hBh hFin hok hsm f1 f2 f3 f4 f5 f6 f10 hr hraw hwant hoe2 hlx
                obtain ⟨dn, hdn⟩ : ∃ dn, dn = wr.heap.size := ⟨_, rfl⟩
                have HDN := Lib.hid hdn
                have hn5 := new_any 5000 wr
                rw [← hdn] at HCR HWR HOP
                have HN5 : Hid (Calls Tryz.prog 8 #[.int .i64 5000] wr fun e w' => e = .returned (.pointer (some ⟨dn, 0, none⟩)) ∧ DiskAt w' ⟨dn, none, []⟩ (newSt 5000) ∧ Below dn wr w') := Lib.hid (by rw [hdn]; exact hn5)
                clear hn5 hdn
                go_wp2_with fail
                refine HN5.out.mono ?_
                rintro e w4 ⟨rfl, hd4, hb4⟩
                have HC4 := Lib.hid (HCR.out w4 hd4 hb4)
                clear hd4 hb4
                go_wp2_with fail
                refine HC4.out.mono ?_
                rintro e w5 ⟨rfl, g5, hd5, hf5, hg5, hb5⟩
                have HWX : Hid (∀ W, Below w5.heap.size w5 W → Calls Tryz.prog 22 #[.pointer (some ⟨dn, 0, none⟩), .string ⟨#[103, 114, 111, 117, 112, 115]⟩, .int .i64 0, .string raw] W fun e w' => e = .returned (.int .i64 0) ∧ ∃ g', DiskAt w' g' (gr2 raw) ∧ g'.d = dn ∧ Below dn wr w') := Lib.hid (fun W hW => HWR.out W g5 (hd5.new (Chg.of_below hW)) hf5 hg5 (hb5.trans (hW.mono (by have := HDN.out; have := hb5.size; omega))))
                clear hd5 hf5 hg5 hb5
                go_wp2_with fail
                refine (HRS.out _).mono ?_
                rintro e w6 ⟨rfl, hb6⟩
                have HW6 := Lib.hid (HWX.out w6 hb6)
                clear hb6
                go_wp2_with fail
                refine HW6.out.mono ?_
                rintro e w7 ⟨rfl, g7, hd7, hg7, hb7⟩
                have HO7 := Lib.hid (HOP.out w7 g7 hd7 hg7)
                have HB7 : Hid (Below wr.heap.size wr w7) := Lib.hid (by rw [← HDN.out]; exact hb7)
                clear hd7 hg7 hb7
                go_wp2_with fail
                refine HO7.out.mono ?_
                rintro e w8 ⟨hb8, h1, h2⟩
                have HB8 := Lib.hid (ubelow_on hb8 HB7.out (Nat.le_refl _))
                clear hb8
                rcases hoe with hoe | hoe
                · obtain ⟨tb, v8, rfl, _, h8, _⟩ := h2 hoe
                  have HA8 := Lib.hid (oall_any h8 (by omega))
                  clear h1 h2 h8
                  go_wp2_with fail
                  refine HA8.out.mono ?_
                  rintro e w9 ⟨u9, rfl, hr9, hb9, _⟩
                  have HR9 := Lib.hid (rising_any hr9.arg HXR.out (by omega))
                  have HB9 := Lib.hid (ubelow_on hb9 HB8.out (Nat.le_refl _))
                  clear hr9 hb9
                  go_wp2_with fail
                  refine HR9.out.mono ?_
                  rintro e w10 ⟨rfl, hb10⟩
                  have HBQ := Lib.hid (ubelow_on hb10 HB9.out (Nat.le_refl _))
                  clear hb10
                  go_wp2_with fail
                  refine (open_nil _).mono ?_
                  rintro e wa ⟨rfl, hba⟩
                  have HBa := Lib.hid (ubelow_on hba HBQ.out (Nat.le_refl _))
                  have HBHa := Lib.hid (HBH.out wa HBa.out)
                  clear hba
                  go_wp2_with fail
                  refine HBHa.out.mono ?_
                  rintro e wb ⟨rfl, hbb⟩
                  have HBb := Lib.hid (ubelow_on hbb HBa.out (Nat.le_refl _))
                  clear hbb
                  go_wp2_with fail
                  refine (HNS.out _).mono ?_
                  rintro e wc ⟨rfl, hbc⟩
                  have HBc := Lib.hid (ubelow_on hbc HBb.out (Nat.le_refl _))
                  clear hbc
                  go_wp2_with fail
                  refine (oflush_nil _).mono ?_
                  rintro e wd ⟨rfl, rfl⟩
                  go_wp2_with fail
                  refine (oget_nil _ _ _ _).mono ?_
                  rintro e we ⟨rfl, rfl⟩
                  go_wp2_with fail
                  refine (oall_nil _).mono ?_
                  rintro e wf ⟨rfl, rfl⟩
                  go_wp2_with fail
                  refine (obeh_nil _ _).mono ?_
                  rintro e wg ⟨rfl, rfl⟩
                  go_wp2_with fail
                  go_ret
                  exact ⟨by simp, HFI.out _ HBc.out⟩
                · have he8 := h1 (by rw [hoe]; decide)
                  rw [hoe] at he8
                  subst he8
                  have HBQ := HB8
                  clear h1 h2
                  go_wp2_with fail
                  refine (open_nil _).mono ?_
                  rintro e wa ⟨rfl, hba⟩
                  have HBa := Lib.hid (ubelow_on hba HBQ.out (Nat.le_refl _))
                  have HBHa := Lib.hid (HBH.out wa HBa.out)
                  clear hba
                  go_wp2_with fail
                  refine HBHa.out.mono ?_
                  rintro e wb ⟨rfl, hbb⟩
                  have HBb := Lib.hid (ubelow_on hbb HBa.out (Nat.le_refl _))
                  clear hbb
                  go_wp2_with fail
                  refine (HNS.out _).mono ?_
                  rintro e wc ⟨rfl, hbc⟩
                  have HBc := Lib.hid (ubelow_on hbc HBb.out (Nat.le_refl _))
                  clear hbc
                  go_wp2_with fail
                  refine (oflush_nil _).mono ?_
                  rintro e wd ⟨rfl, rfl⟩
                  go_wp2_with fail
                  refine (oget_nil _ _ _ _).mono ?_
                  rintro e we ⟨rfl, rfl⟩
                  go_wp2_with fail
                  refine (oall_nil _).mono ?_
                  rintro e wf ⟨rfl, rfl⟩
                  go_wp2_with fail
                  refine (obeh_nil _ _).mono ?_
                  rintro e wg ⟨rfl, rfl⟩
                  go_wp2_with fail
                  go_ret
                  exact ⟨by simp, HFI.out _ HBc.out⟩
end Go.Proofs.YtemimmnamajooaaGreat
