/-
  TagOrder walked.
-/
import Derived.Test.YtdhpemkmfkcadaaDoorTagE
namespace Go.Proofs.YtdhpemkmfkcadaaDoor
open Go.RowKit Go.ChangeMaps Go.WideShapes Go.Deep
set_option linter.unusedVariables false
set_option linter.unusedSimpArgs false

theorem info_str : (Tryd.prog.info? 9).map (fun i => (i.zero, i.size, i.bytes)) = some (some (.string ⟨#[]⟩), 1, 16) := by kernel_rfl
theorem run_append_strs (w : World) (base : Nat) (ty : TypeId) (v u : Value) (n : Nat) (xs : List Value) (ts : List ByteArray) (hown : w.ownsRow base 9 1 v n xs) (hu : Strs w 0 u ts) (hn : n + ts.length ≤ 1000000) (hbase : base ≤ w.heap.size) :
    ∃ v' w', (Builtin.append_ #[30, 30] ty #[v, u]).run Tryd.prog w = .ok v' w' ∧ w'.ownsRow base 9 1 v' (n + ts.length) (xs ++ ts.map Value.string) ∧ w.grownBy w' v.ownBlock := by
  obtain ⟨i0, hi, hz0, hz1, hz2⟩ := info_parts info_str
  obtain ⟨a, cap, rfl, h⟩ := hu
  cases a with
  | none =>
    have h0 : ts = [] := by
      rcases h with h | ⟨b, o, h, _⟩
      · exact h
      · cases h
    subst h0
    refine ⟨v, w, ?_, by simpa using hown, grownBy_refl _ _⟩
    rcases hown.2 with ⟨rfl, rfl⟩ | ⟨g, cap, cur, rfl, _, _, hnc, _⟩
    · simp [Builtin.append_, run_underlying Tryd.underlying30, sizeOf, typeInfo, hi, Builtin.lenOf, Builtin.firstCells]
    · simp [Builtin.append_, run_underlying Tryd.underlying30, sizeOf, typeInfo, hi, Builtin.lenOf, Builtin.firstCells, hnc, storeCells]
  | some a =>
    have hc : ∀ j u, (ts.map Value.string)[j]? = some u → w.cell? (a.add j) = some u := by
      intro j u hj
      have hlt : j < ts.length := by
        have := (List.getElem?_eq_some_iff.1 hj).1
        simpa using this
      rcases h with h | ⟨b, o, h, _, h2⟩
      · subst h; simp at hlt
      · cases h
        rw [add_none, h2 j hlt]
        rw [List.getElem?_map, List.getElem?_eq_getElem hlt] at hj
        simp only [Option.map_some, Option.some.injEq] at hj
        rw [← hj, List.getD_eq_getElem?_getD, List.getElem?_eq_getElem hlt]
        rfl
    obtain ⟨v', w', h1, h2, h3, _⟩ := run_append_own (P := Tryd.prog) w base 30 ty 9 i0 (.string ⟨#[]⟩) 1 16 Tryd.underlying30 hi hz0 hz1 hz2 rfl (by decide) v n xs hown a ts.length cap (ts.map Value.string) (by simp) hc (by
      intro u hu
      obtain ⟨t, _, rfl⟩ := List.mem_map.1 hu
      rfl) (by unfold maxLen; omega) (by omega) hbase
    exact ⟨v', w', h1, h2, h3⟩

/-- The operation, for the walk. -/
theorem wpList_append_strs {w : World} {ops : Array Oper} {rest : List Oper} {o : Oper} {a : Act} {Q : Exit → Act → World → Prop} (hgd : o.guard = none) (sl x : Operand)
    (ho : o.op = .call { callee := .builtin .append, args := #[sl, x], argTypes := #[30, 30] })
    (base : Nat) (v u : Value) (n : Nat) (xs : List Value) (ts : List ByteArray) (hs : a.eval sl = v) (hx : a.eval x = u) (hown : w.ownsRow base 9 1 v n xs) (hu : Strs w 0 u ts) (hn : n + ts.length ≤ 1000000) (hbase : base ≤ w.heap.size)
    (h : ∀ v' w', w'.ownsRow base 9 1 v' (n + ts.length) (xs ++ ts.map Value.string) → w.grownBy w' v.ownBlock → wpList Tryd.prog ops Q rest (a.put o.dst v') w') : wpList Tryd.prog ops Q (o :: rest) a w := by
  refine wpList_plain hgd fun K hK => ?_
  obtain ⟨v', w', hr, h2, h3⟩ := run_append_strs w base o.type v u n xs ts hown hu hn hbase
  unfold Oper.wp execOp
  simp only [ho, resolve, invoke, builtin, Sem.run_bind, Sem.run_pure, Result.andThen_ok, List.map_toArray, List.map_cons, List.map_nil, hs, hx, hr]
  exact hK _ _ (h v' w' h2 h3)


theorem newE_reverse (L : List ByteArray) : newE L.reverse = newE L := by
  unfold newE
  rw [List.all_reverse, List.length_reverse]
  have : decide L.reverse.Nodup = decide L.Nodup := by
    rw [decide_eq_decide]
    unfold List.Nodup
    rw [List.pairwise_reverse]
    exact ⟨fun h => h.imp Ne.symm, fun h => h.imp Ne.symm⟩
  rw [this]
theorem wantB_reverse (L : List ByteArray) (s : ByteArray) : wantB L.reverse s = wantB L s := by
  unfold wantB
  rw [List.length_reverse, Bool.eq_iff_iff, Bool.or_eq_true, Bool.or_eq_true, Lib.containsS_iff, Lib.containsS_iff, List.mem_reverse]
theorem quickB_reverse (L : List ByteArray) (s : Int) : quickB L.reverse s = quickB L s := by
  unfold quickB
  rw [List.length_reverse, Bool.eq_iff_iff, Bool.or_eq_true, Bool.or_eq_true, List.map_reverse, List.contains_iff_mem, List.contains_iff_mem, List.mem_reverse]
theorem wantB_more {L : List ByteArray} {t s : ByteArray} (h : ¬ L.length = 0) (hw : wantB L s = true) : wantB (L ++ [t]) s = true := by
  unfold wantB at hw ⊢
  rw [decide_eq_false h, Bool.false_or, Lib.containsS_iff] at hw
  rw [Bool.or_eq_true, Lib.containsS_iff]
  exact .inr (List.mem_append_left _ hw)
theorem rev_snoc (L : List ByteArray) {k : Nat} (h : k < L.length) : L.reverse.take (k + 1) = L.reverse.take k ++ [L.getD (L.length - 1 - k) ⟨#[]⟩] := by
  rw [List.take_succ_eq_append_getElem (by simpa using h), List.getElem_reverse, getD_at (by omega)]

set_option maxHeartbeats 2000000 in
set_option maxRecDepth 100000 in
theorem walkM_TagOrder (v : Value) (L : List ByteArray) (more asked : ByteArray) (m : Int) (w : World) (hm : w.cell? ⟨0, 0, none⟩ = some (.int .i64 m)) (hv : Strs w 0 v L) (hmore : more.size ≤ maxLen) (hask : asked.size ≤ maxLen) :
    Calls Tryd.prog 4 #[v, .string more, .string asked] w fun e w' => e = .returned (.bool true) ∧ Below w.heap.size w w' := by
  unfold maxLen at hmore hask
  have HM := Lib.hid hm
  have HV := Lib.hid hv
  obtain ⟨a, cap, rfl⟩ := hv.form
  obtain ⟨n, hn⟩ : ∃ n, n = L.length := ⟨_, rfl⟩
  have HN := Lib.hid hn
  rw [← hn] at HV ⊢
  clear hm hv hn
  go_enter Tryd.func4, Tryd.ntmps4
  go_wp2_with fail
  refine (awake_any m w HM.out).mono ?_
  rintro e w1 ⟨rfl, hb⟩
  have HB := Lib.hid hb
  clear hb HM
  by_cases h1 : 20 < n
  · go_wp2_with fail
    go_ret
    exact ⟨rfl, HB.out⟩
  by_cases h2 : 100 < more.size
  · go_wp2_with fail
    go_ret
    exact ⟨rfl, HB.out⟩
  by_cases h3 : 100 < asked.size
  · go_wp2_with fail
    go_ret
    exact ⟨rfl, HB.out⟩
  go_wp2_with fail
  go_loopw [7, 32] (fun bv i wr => ∃ k : Nat, k ≤ n ∧ i = .int .i64 k ∧ wr.ownsRow w.heap.size 9 1 bv k ((L.reverse.take k).map Value.string) ∧ Below w.heap.size w wr ∧ ∀ j, j < k → (L.getD j ⟨#[]⟩).size ≤ 100) (fun _ i _ => n - (intOf i).toNat)
  case atStart => exact ⟨0, Nat.zero_le _, rfl, World.ownsRow_nil _ _ _ _, HB.out, fun j hj => by omega⟩
  case round =>
    obtain ⟨k, hk, rfl, ho, hb, hok⟩ := hrel
    obtain ⟨pb, cb, eb⟩ := own_slice ho
    subst eb
    have HO := Lib.hid ho
    have HB1 := Lib.hid hb
    have HOK := Lib.hid hok
    clear ho hb hok
    by_cases hlt : k < n
    · have hltL : k < L.length := by rw [← HN.out]; exact hlt
      obtain ⟨b0, o0, rfl, hck⟩ := (HV.out.below HB1.out (Nat.le_refl _)).cellAt hltL
      obtain ⟨b1, o1, e1, hck1⟩ := (HV.out.below HB1.out (Nat.le_refl _)).cellAt (i := L.length - 1 - k) (by omega)
      cases e1
      obtain ⟨q, hq⟩ : ∃ q, q = L.length - 1 - k := ⟨_, rfl⟩
      have hsn := rev_snoc L hltL
      rw [← hq] at hck1 hsn
      have hqt : n - 1 - k = q := by rw [hq, ← HN.out]
      have hq' : (q : Int) = (n : Int) - 1 - k := by rw [hq, ← HN.out]; omega
      obtain ⟨s, hse⟩ : ∃ s, s = L.getD k ⟨#[]⟩ := ⟨_, rfl⟩
      obtain ⟨u, hue⟩ : ∃ u, u = L.getD q ⟨#[]⟩ := ⟨_, rfl⟩
      rw [← hse] at hck
      rw [← hue] at hck1 hsn
      rw [← hqt] at hck1
      have HSE := Lib.hid hse
      have HSN := Lib.hid hsn
      have HQ := Lib.hid hq'
      clear hse hue hsn hltL hq hq' hqt
      by_cases h4 : 100 < s.size
      · go_wp2_with fail
        go_ret
        exact ⟨rfl, HB1.out⟩
      · have HA : Hid ((wr.alloc (.cells #[.string u] 9)).ownsRow w.heap.size 9 1 (.slice pb k cb) k ((L.reverse.take k).map Value.string)) := Lib.hid (HO.out.alloc _)
        have HS1 : Hid (Strs (wr.alloc (.cells #[.string u] 9)) 0 (.slice (some ⟨wr.heap.size, 0, none⟩) 1 1) [u]) := Lib.hid ⟨_, _, rfl, .inr ⟨_, _, rfl, Nat.zero_le _, fun i hi => by
          obtain rfl : i = 0 := by simpa using hi
          simp [go_sem]⟩⟩
        have HB2 : Hid (Below w.heap.size w (wr.alloc (.cells #[.string u] 9))) := Lib.hid (HB1.out.alloc HB1.out.size _)
        go_wp2_with (at_builtin; with_reducible refine wpList_append_strs rfl (.tmp 41) (.tmp 50) rfl w.heap.size (.slice pb k cb) _ k ((L.reverse.take k).map Value.string) [u] rfl rfl ?c1 ?c2 ?c3 ?c4 ?c5)
        case c1 => exact HA.out
        case c2 => exact HS1.out
        case c3 => simp; omega
        case c4 => exact HB2.out.size
        case c5 =>
          intro v' w2 ho2 hg2
          have HO2 := Lib.hid ho2
          have HB3 : Hid (Below w.heap.size w w2) := Lib.hid (HB2.out.grown hg2 HB2.out.size (fun q hq => (HA.out.lt q hq).1))
          clear ho2 hg2
          go_wp2_with fail
          refine ⟨⟨k + 1, by omega, by go_num, ?_, HB3.out, fun j hj => ?_⟩, by simp [intOf]; omega⟩
          · rw [HSN.out, List.map_append, List.map_take, List.map_reverse]
            exact HO2.out
          · by_cases e : j = k
            · subst e; rw [← HSE.out]; omega
            · exact HOK.out j (by omega)
    · have hkn : n = k := by omega
      subst hkn
      have hs100 : ∀ t ∈ L, t.size ≤ 100 := fun t ht => by
        obtain ⟨i, hi, rfl⟩ := List.getElem_of_mem ht
        have := HOK.out i (by rw [HN.out]; exact hi)
        rwa [getD_at hi] at this
      have HBK : Hid (Strs wr 0 (.slice pb n cb) L.reverse) := Lib.hid (strs_own (base := w.heap.size) (ts := L.reverse) (by
        have e : L.reverse.length = n := by rw [List.length_reverse]; exact HN.out.symm
        have := HO.out
        rw [List.take_of_length_le (Nat.le_of_eq e)] at this
        rw [e]
        exact this))
      have HSZ := Lib.hid hs100
      clear hs100 HOK HO
      obtain ⟨x, hx⟩ : ∃ x, newE L = x := ⟨_, rfl⟩
      have HX := Lib.hid hx
      clear hx
      go_wp2_with fail
      refine (new_any (.slice a n cap) L x wr (HV.out.below HB1.out (Nat.le_refl _)) (by rw [← HN.out]; omega) (fun t ht => by have := HSZ.out t ht; unfold maxLen; omega) HX.out).mono ?_
      rintro e w2 ⟨hb, p, rfl, hp1, hp2⟩
      have HB2 := Lib.hid (HB1.out.trans (hb.mono HB1.out.size))
      have HBK2 : Hid (Strs w2 0 (.slice pb n cb) L.reverse) := Lib.hid (HBK.out.below hb (Nat.le_refl _))
      have HP1 := Lib.hid hp1
      have HP2 := Lib.hid hp2
      clear hb hp1 hp2
      go_wp2_with fail
      refine (new_any (.slice pb n cb) L.reverse x w2 HBK2.out (by rw [List.length_reverse, ← HN.out]; omega) (fun t ht => by have := HSZ.out t (List.mem_reverse.1 ht); unfold maxLen; omega) ((newE_reverse L).trans HX.out)).mono ?_
      rintro e w3 ⟨hb, p', rfl, hp1', hp2'⟩
      have HB3 := Lib.hid (HB2.out.trans (hb.mono HB2.out.size))
      have HQ1 := Lib.hid hp1'
      by_cases h0 : x = 0
      · subst h0
        obtain ⟨fb, rfl, hf⟩ := HP1.out rfl
        obtain ⟨fb', rfl, hf'⟩ := HQ1.out rfl
        have HF : Hid (FilAt w3 fb L) := Lib.hid (hf.below hb)
        have HF' := Lib.hid hf'
        obtain ⟨y, hy⟩ : ∃ y, wantB L asked = y := ⟨_, rfl⟩
        obtain ⟨z, hz⟩ : ∃ z, quickB L 7 = z := ⟨_, rfl⟩
        have HY := Lib.hid hy
        have HZ := Lib.hid hz
        have HLN : Hid (L.length ≤ 1000000) := Lib.hid (by rw [← HN.out]; omega)
        have HLR : Hid (L.reverse.length ≤ 1000000) := Lib.hid (by rw [List.length_reverse, ← HN.out]; omega)
        clear hb hp1' hp2' hf hf' hy hz HP1 HP2 HQ1
        go_wp2_with fail
        refine (wants_any fb L asked y w3 HF.out HLN.out HY.out).mono ?_
        rintro e w4 ⟨rfl, rfl⟩
        go_wp2_with fail
        refine (wants_any fb' L.reverse asked y w3 HF'.out HLR.out ((wantB_reverse L asked).trans HY.out)).mono ?_
        rintro e w4 ⟨rfl, rfl⟩
        have hyy : (y != y) = false := by simp
        have hzz : (z != z) = false := by simp
        go_wp2_with fail
        refine (quick_any fb L 7 z w3 HF.out HLN.out HZ.out).mono ?_
        rintro e w4 ⟨rfl, rfl⟩
        go_wp2_with fail
        refine (quick_any fb' L.reverse 7 z w3 HF'.out HLR.out ((quickB_reverse L 7).trans HZ.out)).mono ?_
        rintro e w4 ⟨rfl, rfl⟩
        have HO4 : Hid ((w3.alloc (.cells #[] 9)).ownsRow w.heap.size 9 1 (.slice (some ⟨w3.heap.size, 0, none⟩) 0 0) 0 []) := Lib.hid (World.ownsRow_made w3 #[] 0 HB3.out.size (Nat.zero_le _) rfl)
        have HB4 : Hid (Below w.heap.size w (w3.alloc (.cells #[] 9))) := Lib.hid (HB3.out.alloc HB3.out.size _)
        have HC4 : Hid (Below w3.heap.size w3 (w3.alloc (.cells #[] 9))) := Lib.hid ((Below.refl _ _).alloc (Nat.le_refl _) _)
        have HWW : Hid (w.heap.size ≤ w3.heap.size) := Lib.hid HB3.out.size
        have HF4 : Hid (FilAt (w3.alloc (.cells #[] 9)) fb L) := Lib.hid (HF.out.below HC4.out)
        have HV4 : Hid (Strs (w3.alloc (.cells #[] 9)) 0 (.slice a n cap) L) := Lib.hid (HV.out.below HB4.out (Nat.le_refl _))
        go_wp2_with (at_builtin; with_reducible refine wpList_append_strs rfl (.tmp 83) (.tmp 84) rfl w3.heap.size (.slice (some ⟨w3.heap.size, 0, none⟩) 0 0) _ 0 [] L rfl rfl ?d1 ?d2 ?d3 ?d4 ?d5)
        case d1 => exact World.ownsRow_made w3 #[] 0 (Nat.le_refl _) (Nat.zero_le _) rfl
        case d2 => exact HV4.out
        case d3 => have := HLN.out; omega
        case d4 => simp [go_sem]
        case d5 =>
          intro v5 w5 ho5 hg5
          obtain ⟨p5, c5, e5⟩ := own_slice ho5
          obtain ⟨n5, hn5⟩ : ∃ n5, n5 = L.length := ⟨_, rfl⟩
          rw [← hn5] at e5 ho5
          subst e5
          have HN5 := Lib.hid hn5
          clear hn5
          have hb5 : Below w3.heap.size w3 w5 := HC4.out.grown hg5 HC4.out.size (fun q hq => by simp [Value.ownBlock] at hq; omega)
          have HO5 := Lib.hid ho5
          have HB5 := Lib.hid (HB3.out.trans (hb5.mono HWW.out))
          have HC5 := Lib.hid hb5
          clear ho5 hg5 hb5
          have HS6 : Hid (Strs (w5.alloc (.cells #[.string more] 9)) 0 (.slice (some ⟨w5.heap.size, 0, none⟩) 1 1) [more]) := Lib.hid ⟨_, _, rfl, .inr ⟨_, _, rfl, Nat.zero_le _, fun i hi => by
            obtain rfl : i = 0 := by simpa using hi
            simp [go_sem]⟩⟩
          have HO6 : Hid ((w5.alloc (.cells #[.string more] 9)).ownsRow w3.heap.size 9 1 (.slice p5 n5 c5) n5 (L.map Value.string)) := Lib.hid (HO5.out.alloc _)
          have HC6 : Hid (Below w3.heap.size w3 (w5.alloc (.cells #[.string more] 9))) := Lib.hid (HC5.out.alloc HC5.out.size _)
          go_wp2_with (at_builtin; with_reducible refine wpList_append_strs rfl (.tmp 85) (.tmp 87) rfl w3.heap.size (.slice p5 n5 c5) _ n5 (L.map Value.string) [more] rfl rfl ?d9 ?d10 ?d6 ?d7 ?d8)
          case d9 => exact HO6.out
          case d10 => exact HS6.out
          case d6 => have := HN5.out; have := HN.out; simp; omega
          case d7 => exact HC6.out.size
          case d8 =>
            intro v7 w7 ho7 hg7
            have hb7 : Below w3.heap.size w3 w7 := HC6.out.grown hg7 HC6.out.size (fun q hq => (HO6.out.lt q hq).1)
            have hs7 : Strs w7 0 v7 (L ++ [more]) := strs_own (base := w3.heap.size) (by
              rw [List.length_append, List.map_append, ← HN5.out]
              exact ho7)
            have HB7 := Lib.hid (HB3.out.trans (hb7.mono HWW.out))
            have HS7 := Lib.hid hs7
            have HF7 : Hid (FilAt w7 fb L) := Lib.hid (HF.out.below hb7)
            clear ho7 hg7 hb7 hs7
            obtain ⟨x3, hx3⟩ : ∃ x3, newE (L ++ [more]) = x3 := ⟨_, rfl⟩
            have HX3 := Lib.hid hx3
            clear hx3
            go_wp2_with fail
            refine (new_any v7 (L ++ [more]) x3 w7 HS7.out (by rw [List.length_append]; have := HN.out; simp; omega) (fun t ht => by
              rcases List.mem_append.1 ht with ht | ht
              · have := HSZ.out t ht; unfold maxLen; omega
              · rw [List.mem_singleton.1 ht]; unfold maxLen; omega) HX3.out).mono ?_
            rintro e w8 ⟨hb, p8, rfl, hp8, _⟩
            have HB8 := Lib.hid (HB7.out.trans (hb.mono HB7.out.size))
            have HF8 : Hid (FilAt w8 fb L) := Lib.hid (HF7.out.below hb)
            have HP8 := Lib.hid hp8
            clear hb hp8
            by_cases h3z : x3 = 0
            · subst h3z
              obtain ⟨fb8, rfl, hf8⟩ := HP8.out rfl
              have HG8 := Lib.hid hf8
              clear hf8
              by_cases hn0 : n = 0
              · subst hn0
                go_wp2_with fail
                go_ret
                exact ⟨rfl, HB8.out⟩
              · obtain ⟨n1, hn1⟩ : ∃ n1, n = n1 + 1 := ⟨n - 1, by omega⟩
                subst hn1
                have hnb : (((n1 + 1 : Nat) : Int) == 0) = false := by rw [beq_eq_false_iff_ne]; omega
                clear hn0
                go_wp2_with fail
                refine (wants_any fb L asked y w8 HF8.out HLN.out HY.out).mono ?_
                rintro e w9 ⟨rfl, rfl⟩
                cases y
                · go_wp2_with fail
                  go_ret
                  exact ⟨rfl, HB8.out⟩
                · go_wp2_with fail
                  refine (wants_any fb8 (L ++ [more]) asked true w8 HG8.out (by rw [List.length_append]; have := HN.out; simp; omega) (wantB_more (by rw [← HN.out]; omega) HY.out)).mono ?_
                  rintro e w9 ⟨rfl, rfl⟩
                  go_wp2_with fail
                  go_ret
                  exact ⟨rfl, HB8.out⟩
            · have H3 := Lib.hid h3z
              go_wp2_with fail
              go_ret
              exact ⟨rfl, HB8.out⟩
      · have HX0 := Lib.hid h0
        have hp := HP2.out h0
        subst hp
        clear hb hp1' hp2'
        go_wp2_with fail
        go_ret
        exact ⟨rfl, HB3.out⟩
end Go.Proofs.YtdhpemkmfkcadaaDoor
