/- A part. -/
import Derived.Test.YtemimmnamajooaaGreatOor23
import Derived.Test.YtemimmnamajooaaGreatOor31
import Derived.Test.YtemimmnamajooaaGreatOor32
set_option linter.unusedVariables false
set_option linter.unusedSimpArgs false
namespace Go.Proofs.YtemimmnamajooaaGreat
open Go.RowKit Go.Deep
noncomputable def setsL (xs : OL) : OL := xs.foldl osL []
theorem setsL_snoc (xs : OL) (x : OfM) : setsL (xs ++ [x]) = osL (setsL xs) x := by unfold setsL; rw [List.foldl_append]; rfl
theorem setsL_ok (xs : OL) : OOk (setsL xs) := by
  unfold setsL
  suffices h : ∀ l, OOk l → OOk (xs.foldl osL l) from h [] OOk.nil
  induction xs with
  | nil => intro l h; exact h
  | cons x xs ih => intro l h; exact ih _ (h.set x)
def Unlike (xs : OL) : Prop := xs.Pairwise fun a b => ¬ sameK a b
theorem osL_len (l : OL) (x : OfM) : (osL l x).length ≤ l.length + 1 := by
  unfold osL
  split
  · rw [putO_len]; split <;> omega
  · omega
theorem setsL_len : ∀ (n : Nat) (xs : OL), xs.length = n → (setsL xs).length ≤ n
  | 0, xs, h => by rw [List.length_eq_zero_iff.1 h]; exact Nat.le_refl _
  | n + 1, xs, h => by
    obtain ⟨ys, x, rfl⟩ : ∃ ys x, xs = ys ++ [x] := ⟨xs.dropLast, xs.getLast (by intro e; rw [e] at h; cases h), (List.dropLast_concat_getLast _).symm⟩
    rw [List.length_append] at h
    have := setsL_len n ys (by simpa using h)
    rw [setsL_snoc]
    have := osL_len (setsL ys) x
    omega
theorem mem_setsL : ∀ (n : Nat) (xs : OL), xs.length = n → n ≤ 60 → Unlike xs → ∀ z, z ∈ setsL xs ↔ z ∈ xs ∧ offE z = 0
  | 0, xs, h, _, _, z => by rw [List.length_eq_zero_iff.1 h]; unfold setsL; simp
  | n + 1, xs, h, hn, hu, z => by
    obtain ⟨ys, x, rfl⟩ : ∃ ys x, xs = ys ++ [x] := ⟨xs.dropLast, xs.getLast (by intro e; rw [e] at h; cases h), (List.dropLast_concat_getLast _).symm⟩
    rw [List.length_append] at h
    have hl : ys.length = n := by simpa using h
    obtain ⟨hu1, _, hu2⟩ := List.pairwise_append.1 hu
    have ih := mem_setsL n ys hl (by omega) hu1
    have hlen := setsL_len n ys hl
    have hok := setsL_ok ys
    have hno : hasO (setsL ys) x = false := by
      rw [Bool.eq_false_iff]
      intro hh
      obtain ⟨y, a, b⟩ := (hasO_iff hok.ris).1 hh
      exact hu2 y ((ih y).1 a).1 x (by simp) b
    rw [setsL_snoc]
    by_cases h0 : offE x = 0
    · have hz : osE (setsL ys) x = 0 := by unfold osE; rw [if_neg (by simp [h0]), hno, if_neg (by simp), if_neg (by omega)]
      unfold osL
      rw [if_pos hz, mem_putO hok.ris, List.mem_append, List.mem_singleton]
      constructor
      · rintro (e | ⟨e, _⟩)
        · exact ⟨.inr e, e ▸ h0⟩
        · exact ⟨.inl ((ih z).1 e).1, ((ih z).1 e).2⟩
      · rintro ⟨e | e, e2⟩
        · exact .inr ⟨(ih z).2 ⟨e, e2⟩, hu2 z e x (by simp)⟩
        · exact .inl e
    · have hz : osE (setsL ys) x ≠ 0 := by unfold osE; rw [if_pos h0]; exact h0
      unfold osL
      rw [if_neg hz, ih z, List.mem_append, List.mem_singleton]
      constructor
      · rintro ⟨a, b⟩; exact ⟨.inl a, b⟩
      · rintro ⟨e | e, e2⟩
        · exact ⟨e, e2⟩
        · exact absurd (e ▸ e2) h0
theorem rising_ext : ∀ {a b : OL}, Rising a → Rising b → (∀ z, z ∈ a ↔ z ∈ b) → a = b
  | [], [], _, _, _ => rfl
  | [], y :: b, _, _, h => absurd ((h y).2 (by simp)) (by simp)
  | x :: a, [], _, _, h => absurd ((h x).1 (by simp)) (by simp)
  | x :: a, y :: b, ha, hb, h => by
    have hxy : x = y := by
      rcases List.mem_cons.1 ((h x).1 (by simp)) with e | e
      · exact e
      · rcases List.mem_cons.1 ((h y).2 (by simp)) with e2 | e2
        · exact e2.symm
        · exact absurd (ha.head y e2) (oLess_asymm (hb.head x e))
    subst hxy
    rw [rising_ext ha.tail hb.tail fun z => ?_]
    constructor
    · intro hz
      rcases List.mem_cons.1 ((h z).1 (List.mem_cons_of_mem _ hz)) with e | e
      · exact absurd (ha.head z hz) (e ▸ oLess_irrefl x)
      · exact e
    · intro hz
      rcases List.mem_cons.1 ((h z).2 (List.mem_cons_of_mem _ hz)) with e | e
      · exact absurd (hb.head z hz) (e ▸ oLess_irrefl x)
      · exact e
theorem sets_rev {xs : OL} (hl : xs.length ≤ 60) (hu : Unlike xs) : setsL xs.reverse = setsL xs := by
  have hu2 : Unlike xs.reverse := by
    unfold Unlike
    rw [List.pairwise_reverse]
    exact hu.imp fun h e => h e.symm
  refine rising_ext (setsL_ok _).ris (setsL_ok _).ris fun z => ?_
  rw [mem_setsL _ _ rfl (by rw [List.length_reverse]; exact hl) hu2, mem_setsL _ _ rfl hl hu, List.mem_reverse]
theorem agree_self {l : OL} (h : Rising l) : Agree l l := by
  refine ⟨rfl, fun x hx => ?_⟩
  rcases findO_spec l x with ⟨_, h2⟩ | ⟨j, y, h1, h2, h3⟩
  · exact absurd (sameK.refl x) (h2 x hx)
  · exact ⟨j, y, h1, h2, by rw [rising_key h (List.mem_of_getElem? h2) hx h3]⟩
theorem unlike_snoc {xs : OL} {k : Nat} {x : OfM} (hx : xs[k]? = some x) (h : Unlike (xs.take k)) (hf : findO (xs.take k) x = -1) : Unlike (xs.take (k + 1)) := by
  obtain ⟨hk, e⟩ := List.getElem?_eq_some_iff.1 hx
  rw [List.take_succ_eq_append_getElem hk, e]
  refine List.pairwise_append.2 ⟨h, List.pairwise_singleton _ _, fun y hy z hz => ?_⟩
  rw [List.mem_singleton.1 hz]
  rcases findO_spec (xs.take k) x with ⟨_, h2⟩ | ⟨j, _, h1, _⟩
  · exact h2 y hy
  · omega
theorem OI.far {S : Nat → Prop} {w w' : World} {g : Gh} {st : St} {ob : Nat} {v : Value} {l : OL} (h : OI w g st ob v l) (hc : Chg S w w') (hn : ∀ k, OS g ob v k → ¬ S k) : OI w' g st ob v l :=
  ⟨h.disk.chg hc (fun k hk => hn k (.inl hk)), ⟨h.head.at_.chg hc (hn ob (.inr (.inl rfl))), h.head.row.chg hc (fun k hk => hn k (.inr (.inr hk)))⟩, h.outT, h.outV⟩
theorem OI.lt {w : World} {g : Gh} {st : St} {ob : Nat} {v : Value} {l : OL} (h : OI w g st ob v l) : ∀ k, OS g ob v k → k < w.heap.size := fun k hk => by
  rcases hk with hk | hk | hk
  · exact h.disk.lt k hk
  · rw [hk]; exact h.head.at_.lt
  · exact h.head.row.lt k hk
structure Two (w0 w : World) (ga gb : Gh) (sa sb : St) (oa ob : Nat) (va vb : Value) (la lb : OL) : Prop where
  a : NI w0 w ga sa oa va la
  b : NI w0 w gb sb ob vb lb
  ap : ∀ k, OS ga oa va k → ¬ OS gb ob vb k
theorem Two.swap {w0 w : World} {ga gb : Gh} {sa sb : St} {oa ob : Nat} {va vb : Value} {la lb : OL} (h : Two w0 w ga gb sa sb oa ob va vb la lb) : Two w0 w gb ga sb sa ob oa vb va lb la := ⟨h.b, h.a, fun k hk hk2 => h.ap k hk2 hk⟩
theorem Two.new {w0 w w' : World} {ga gb : Gh} {sa sb : St} {oa ob : Nat} {va vb : Value} {la lb : OL} (h : Two w0 w ga gb sa sb oa ob va vb la lb) (hc : Chg (fun _ => False) w w') : Two w0 w' ga gb sa sb oa ob va vb la lb := ⟨h.a.new hc, h.b.new hc, h.ap⟩
theorem Two.left {w0 w w' : World} {ga gb ga' : Gh} {sa sb sa' : St} {oa ob : Nat} {va vb va' : Value} {la lb la' : OL} (h : Two w0 w ga gb sa sb oa ob va vb la lb) (h' : NI w0 w' ga' sa' oa va' la') (ht : OTo ga ga' oa va va' w w') : Two w0 w' ga' gb sa' sb oa ob va' vb la' lb := by
  have hb := h.b.oi.far ht.chg (fun k hk hs => h.ap k hs hk)
  have hz := h.b.chg.size
  refine ⟨h', ⟨hb, h.b.chg.trans ht.chg (fun i hi hx => by have := h.a.low i hx; omega), h.b.low⟩, fun k hk hk2 => ?_⟩
  have hlt := h.b.oi.lt k hk2
  rcases hk with hk | hk | hk
  · rcases ht.fp k hk with e | e
    · exact h.ap k (.inl e) hk2
    · omega
  · exact h.ap k (.inr (.inl hk)) hk2
  · rcases ht.own k hk with e | e
    · exact h.ap k (.inr (.inr e)) hk2
    · omega
theorem Two.right {w0 w w' : World} {ga gb gb' : Gh} {sa sb sb' : St} {oa ob : Nat} {va vb vb' : Value} {la lb lb' : OL} (h : Two w0 w ga gb sa sb oa ob va vb la lb) (h' : NI w0 w' gb' sb' ob vb' lb') (ht : OTo gb gb' ob vb vb' w w') : Two w0 w' ga gb' sa sb' oa ob va vb' la lb' := (h.swap.left h' ht).swap
theorem oset_ni2 {w0 w : World} {g : Gh} {st : St} {ob : Nat} {v : Value} {l : OL} (x : OfM) (h : NI w0 w g st ob v l) (hl : OOk l) (h1 : x.g.size ≤ maxLen) (h2 : x.t.size ≤ maxLen) :
    Calls Tryz.prog 12 #[.pointer (some ⟨ob, 0, none⟩), .agg (oenc x).toArray] w fun e w' => e = .returned (.int .i64 (osE l x)) ∧ ∃ v', NI w0 w' g st ob v' (osL l x) ∧ OTo g g ob v v' w w' := by
  refine (set_any x h.oi.head hl.ris hl.len h1 h2).mono ?_
  rintro e w' ⟨he, v', hs⟩
  obtain ⟨a, b⟩ := h.oi.set hs
  exact ⟨he, v', h.to a b, b⟩
theorem take_succ_at {xs : OL} {k : Nat} {x : OfM} (hx : xs[k]? = some x) : xs.take (k + 1) = xs.take k ++ [x] := by
  obtain ⟨hk, e⟩ := List.getElem?_eq_some_iff.1 hx
  rw [List.take_succ_eq_append_getElem hk, e]
set_option maxRecDepth 100000 in
set_option maxHeartbeats 8000000 in
theorem walk_OffsOrder (v : Value) (os : OL) (w : World) (hv : OArg w v os) (hol : os.length ≤ maxLen) (hwf : ∀ x ∈ os, OWf x) :
    Calls Tryz.prog 6 #[v] w fun e w' => e = .returned (.bool true) ∧ Below w.heap.size w w' := by
  have hA : ∀ W, Below w.heap.size w W → OArg W v os := fun W hW => hv.keep hW
  obtain ⟨a, cap, rfl, hcap⟩ := hv.len
  obtain ⟨n, hn⟩ : ∃ n, n = os.length := ⟨_, rfl⟩
  rw [← hn] at hA hol hcap ⊢
  have HA := Lib.hid hA
  have HN := Lib.hid hn
  have HWF := Lib.hid hwf
  have hn64 : (n : Int) ≤ 9223372036854775807 := by unfold maxLen at hol; omega
  clear hA hn hv hol hwf
  by_cases h30 : 30 < n
  · have h30' : (30 : Int) < (n : Int) := by omega
    clear h30
    go_enter Tryz.func6, Tryz.ntmps6
    go_wp2_with fail
    refine (awake_o w).mono ?_
    rintro e w1 ⟨rfl, hb1⟩
    have HB1 := Lib.hid hb1
    clear hb1
    go_wp2_with fail
    go_ret
    exact ⟨rfl, HB1.out⟩
  · have h30' : ¬ (30 : Int) < (n : Int) := by omega
    have hn30 : n ≤ 30 := by omega
    clear h30
    go_enter Tryz.func6, Tryz.ntmps6
    go_wp2_with fail
    refine (awake_o w).mono ?_
    rintro e w1 ⟨rfl, hb1⟩
    have HB1 := Lib.hid hb1
    clear hb1
    go_wp2_with fail
    refine (new_any 65536 w1).mono ?_
    rintro e w2 ⟨rfl, hd2, hb2⟩
    have HD2 := Lib.hid hd2
    have HB2 := Lib.hid hb2
    clear hd2 hb2
    go_wp2_with fail
    refine (new_any 65536 w2).mono ?_
    rintro e w3 ⟨rfl, hd3, hb3⟩
    obtain ⟨d, hd⟩ : ∃ d, d = w1.heap.size := ⟨_, rfl⟩
    obtain ⟨f, hf⟩ : ∃ f, f = w2.heap.size := ⟨_, rfl⟩
    have hlt1 := HD2.out.lt w1.heap.size (by simp [Gh.fp])
    have hlt2 := hd3.lt w2.heap.size (by simp [Gh.fp])
    have hb02 : Below w.heap.size w w2 := HB1.out.trans (HB2.out.mono HB1.out.size)
    have hb03 : Below w.heap.size w w3 := hb02.trans (hb3.mono hb02.size)
    have hd2' : DiskAt w3 ⟨d, none, []⟩ (newSt 65536) := by rw [hd]; exact HD2.out.new (Chg.of_below hb3)
    have hdlow : w.heap.size ≤ d := by rw [hd]; exact HB1.out.size
    have hflow : w.heap.size ≤ f := by rw [hf]; exact hb02.size
    have hdf : d < f := by omega
    rw [← hf] at hd3
    have hO := open_saved (w0 := w) (g := ⟨d, none, []⟩) hd2' (Chg.of_below hb03) (fun k hk => by simp [Gh.fp] at hk; omega) (.inl ⟨rfl, rfl⟩) OOk.nil rfl
    have hO2 : ∀ W ob v0, w3.heap.size ≤ ob → (∀ q, v0.ownBlock = some q → w3.heap.size ≤ q) → Below w3.heap.size w3 W → NI w W ⟨d, none, []⟩ (newSt 65536) ob v0 [] → Calls Tryz.prog 9 #[.pointer (some ⟨f, 0, none⟩)] W fun e w' => ∃ ob2 v2, e = .returned (.tuple #[.pointer (some ⟨ob2, 0, none⟩), .int .i64 0]) ∧ Two w w' ⟨d, none, []⟩ ⟨f, none, []⟩ (newSt 65536) (newSt 65536) ob ob2 v0 v2 [] [] := fun W ob v0 z1 z2 hW hi => by
      have hdW : DiskAt W ⟨f, none, []⟩ (newSt 65536) := hd3.new (Chg.of_below hW)
      refine (open_saved (w0 := w) (g := ⟨f, none, []⟩) hdW hi.chg (fun k hk => by simp [Gh.fp] at hk; omega) (.inl ⟨rfl, rfl⟩) OOk.nil rfl).mono ?_
      rintro e w' ⟨hb, ob2, v2, he, k1, k2, h2⟩
      have hi2 := hi.new (Chg.of_below hb)
      refine ⟨ob2, v2, he, hi2, h2, fun k hk hk2 => ?_⟩
      have hlt := hi.oi.lt k hk
      rcases hk2 with hk2 | hk2 | hk2
      · have hk3 : k = f := by simpa [Gh.fp] using hk2
        rcases hk with hk | hk | hk
        · simp [Gh.fp] at hk; omega
        · omega
        · have := z2 k hk; omega
      · omega
      · have := k2 k hk2; omega
    have HO := Lib.hid hO
    have HO2 := Lib.hid hO2
    have HDD := Lib.hid hd
    have HFF := Lib.hid hf
    clear hd2' hb02 hb03 hb3 hd3 hO hO2 hd hf hdlow hflow hdf hlt1 hlt2 HB2 HD2
    go_wp2_with fail
    rw [← HDD.out, ← HFF.out]
    refine HO.out.mono ?_
    rintro e w4 ⟨hb4, oa, va, rfl, hz1, hz2, h4⟩
    have HO4 := Lib.hid (HO2.out w4 oa va hz1 hz2 hb4 h4)
    clear hb4 hz1 hz2 h4
    go_wp2_with fail
    refine HO4.out.mono ?_
    rintro e w5 ⟨ob, vb, rfl, h5⟩
    have HI5 := Lib.hid h5
    clear h5
    go_wp2_with fail
    go_loopw [36] (fun i wr => ∃ k : Nat, k ≤ n ∧ i = .int .i64 (k : Int) ∧ ∃ va' vb', Hid (Two w wr ⟨d, none, []⟩ ⟨f, none, []⟩ (newSt 65536) (newSt 65536) oa ob va' vb' (setsL (os.take k)) (setsL (os.reverse.take k))) ∧ Hid (Unlike (os.take k))) (fun i _ => n - (intOf i).toNat)
    case atStart => exact ⟨0, Nat.zero_le _, rfl, va, vb, Lib.hid (by rw [List.take_zero, List.take_zero]; exact HI5.out), Lib.hid (by rw [List.take_zero]; exact List.Pairwise.nil)⟩
    case round =>
      obtain ⟨k, hk, rfl, va', vb', HI, HU⟩ := hrel
      by_cases hlt : k < n
      · obtain ⟨x, hx⟩ : ∃ x, os[k]? = some x := ⟨_, List.getElem?_eq_getElem (by rw [← HN.out]; exact hlt)⟩
        obtain ⟨m, hm⟩ : ∃ m, m = n - 1 - k := ⟨_, rfl⟩
        obtain ⟨y, hy⟩ : ∃ y, os[m]? = some y := ⟨_, List.getElem?_eq_getElem (by rw [← HN.out]; omega)⟩
        have hyr : os.reverse[k]? = some y := by
          rw [List.getElem?_reverse (by rw [← HN.out]; exact hlt), ← HN.out, ← hm]; exact hy
        obtain ⟨b, o, rfl, hc⟩ := (HA.out wr HI.out.a.below).at_ hx
        have hc0 := hc
        obtain ⟨c0, c1, c2, c3⟩ := hc
        obtain ⟨w6, hw6⟩ : ∃ w6, w6 = wr.alloc (.cells #[.string x.g, .string x.t, .int .i64 x.q, .int .i64 x.a] 32) := ⟨_, rfl⟩
        obtain ⟨xb, hxb⟩ : ∃ xb, xb = wr.heap.size := ⟨_, rfl⟩
        have hb6 : Below wr.heap.size wr w6 := by rw [hw6]; exact (Below.refl _ _).alloc (Nat.le_refl _) _
        have f0 : w6.cell? ⟨xb, 0, none⟩ = some (.string x.g) := by rw [hw6, hxb]; simp [go_sem]
        have f1 : w6.cell? ⟨xb, 1, none⟩ = some (.string x.t) := by rw [hw6, hxb]; simp [go_sem]
        have f2 : w6.cell? ⟨xb, 2, none⟩ = some (.int .i64 x.q) := by rw [hw6, hxb]; simp [go_sem]
        have f3 : w6.cell? ⟨xb, 3, none⟩ = some (.int .i64 x.a) := by rw [hw6, hxb]; simp [go_sem]
        have HI6 := Lib.hid (HI.out.new (Chg.of_below hb6))
        have hfnd : ∀ W, Below w6.heap.size w6 W → Calls Tryz.prog 11 #[.slice (some ⟨b, o, none⟩) k cap, .agg (oenc x).toArray] W fun e w' => e = .returned (.int .i64 (findO (os.take k) x)) ∧ Below W.heap.size W w' := fun W hW => find_any x ((HA.out W (HI6.out.new (Chg.of_below hW)).a.below).take k (by rw [← HN.out]; exact hk)) (by rw [List.length_take]; omega)
        have hset : ∀ W, Below w6.heap.size w6 W → Calls Tryz.prog 12 #[.pointer (some ⟨oa, 0, none⟩), .agg (oenc x).toArray] W fun e w' => ∃ er, e = .returned (.int .i64 er) ∧ ∃ va2, Two w w' ⟨d, none, []⟩ ⟨f, none, []⟩ (newSt 65536) (newSt 65536) oa ob va2 vb' (setsL (os.take (k + 1))) (setsL (os.reverse.take k)) := fun W hW => by
          have hiW := HI6.out.new (Chg.of_below hW)
          have hw := HWF.out x (List.mem_of_getElem? hx)
          refine (oset_ni2 x hiW.a (setsL_ok _) hw.2.2.1 hw.2.2.2).mono ?_
          rintro e w' ⟨he, va2, h2, h3⟩
          rw [take_succ_at hx, setsL_snoc]
          exact ⟨_, he, va2, hiW.left h2 h3⟩
        have hset2 : ∀ W va2, Two w W ⟨d, none, []⟩ ⟨f, none, []⟩ (newSt 65536) (newSt 65536) oa ob va2 vb' (setsL (os.take (k + 1))) (setsL (os.reverse.take k)) → Calls Tryz.prog 12 #[.pointer (some ⟨ob, 0, none⟩), .agg (oenc y).toArray] W fun e w' => ∃ er, e = .returned (.int .i64 er) ∧ ∃ vb2, Two w w' ⟨d, none, []⟩ ⟨f, none, []⟩ (newSt 65536) (newSt 65536) oa ob va2 vb2 (setsL (os.take (k + 1))) (setsL (os.reverse.take (k + 1))) := fun W va2 hiW => by
          have hw := HWF.out y (List.mem_of_getElem? hy)
          refine (oset_ni2 y hiW.b (setsL_ok _) hw.2.2.1 hw.2.2.2).mono ?_
          rintro e w' ⟨he, vb2, h2, h3⟩
          rw [take_succ_at hyr, setsL_snoc]
          exact ⟨_, he, vb2, hiW.right h2 h3⟩
        have hyc : ∀ W, Below w.heap.size w W → OCell W b (o + (n - 1 - k) * 4) y := fun W hW => by
          rw [← hm]
          obtain ⟨b', o', e, hc⟩ := (HA.out W hW).at_ hy
          injection e with e
          injection e with e1 e2
          subst e1 e2
          exact hc
        have hu2 : findO (os.take k) x = -1 → Unlike (os.take (k + 1)) := fun h => unlike_snoc hx HU.out h
        have hfs : findO (os.take k) x = -1 ∨ 0 ≤ findO (os.take k) x := by
          rcases findO_spec (os.take k) x with ⟨h, _⟩ | ⟨j, _, h, _⟩
          · exact .inl h
          · exact .inr (by omega)
        have hmi : (n : Int) - 1 - (k : Int) = (m : Int) := by omega
        have hm0 : (0 : Int) ≤ (m : Int) := by omega
        have hmn : (m : Int) < (n : Int) := by omega
        obtain ⟨fv, hfv⟩ : ∃ fv, fv = findO (os.take k) x := ⟨_, rfl⟩
        rw [← hfv] at hfnd hu2 hfs
        obtain ⟨x1, x2, x3, x4⟩ := x
        obtain ⟨y1, y2, y3, y4⟩ := y
        unfold oenc at hfnd hset hset2
        try dsimp only at c0 c1 c2 c3 f0 f1 f2 f3 hfnd hset hset2 hw6
        have HFN := Lib.hid hfnd
        have HS1 := Lib.hid hset
        have HS2 := Lib.hid hset2
        have HYC := Lib.hid hyc
        have HU2 := Lib.hid hu2
        have HW6 := Lib.hid hw6
        have HXB := Lib.hid hxb
        have hm : m < n := by omega
        clear hfnd hset hset2 hyc hu2 hw6 hxb hb6 hfv hx hy hyr hc0
        obtain ⟨q1, hq1⟩ : ∃ q1, decide ((100 : Int) < (x1.size : Int)) = q1 := ⟨_, rfl⟩
        obtain ⟨q2, hq2⟩ : ∃ q2, decide ((100 : Int) < (x2.size : Int)) = q2 := ⟨_, rfl⟩
        by_cases hbig : (q1 || q2) = true
        · cases q1 <;> cases q2
          · cases hbig
          all_goals
            clear hbig
            go_upto_region 13 with fail
            rw [← HW6.out, ← HXB.out]
            go_quiet (fail)
            go_wp2_with fail
            go_ret
            exact ⟨rfl, below_drewN HI6.out.a.below _⟩
        · obtain rfl : q1 = false := by cases q1 <;> simp_all
          obtain rfl : q2 = false := by cases q2 <;> simp_all
          clear hbig
          have hki : (k : Int) ≤ (cap : Int) := by omega
          have hki0 : (0 : Int) ≤ (k : Int) := by omega
          have HBB : Hid (Below w6.heap.size w6 w6) := Lib.hid (Below.refl _ _)
          go_upto_region 13 with fail
          rw [← HW6.out, ← HXB.out]
          obtain ⟨tb, htb⟩ : ∃ tb, tb = decide (0 ≤ fv) := ⟨_, rfl⟩
          have HTB := Lib.hid htb
          clear htb
          go_cut [58] from 41 to 57 (fun t wx => t = .bool tb ∧ Below w6.heap.size w6 wx)
          case first =>
            go_region_held3 (fun w' => w'.cell? ⟨xb, 0, none⟩ = some (.string x1) ∧ w'.cell? ⟨xb, 1, none⟩ = some (.string x2) ∧ w'.cell? ⟨xb, 2, none⟩ = some (.int .i64 x3) ∧ w'.cell? ⟨xb, 3, none⟩ = some (.int .i64 x4))
              (first | exact ⟨f0, f1, f2, f3⟩ | go_keep)
              (first
                | (go_at_call 11
                   refine (HFN.out _ ?_).mono ?_
                   · repeat (first | exact HBB.out | with_reducible refine below_drewN ?_ _ | with_reducible refine below_drew0 ?_)
                   rintro e w8 ⟨rfl, hb8⟩
                   have f0 := ukeep hb8 f0
                   have f1 := ukeep hb8 f1
                   have f2 := ukeep hb8 f2
                   have f3 := ukeep hb8 f3))
            all_goals
              go_wp2_with fail
              go_meet
              exact ⟨by rw [HTB.out], by repeat (first | exact (ubelow_on hb8 (by repeat (first | exact HBB.out | with_reducible refine below_drewN ?_ _ | with_reducible refine below_drew0 ?_)) (Nat.le_refl _)) | with_reducible refine below_drewN ?_ _ | with_reducible refine below_drew0 ?_)⟩
          case rest =>
            obtain ⟨rfl, hbx⟩ := hcut
            have g0 := ukeep hbx f0
            have g1 := ukeep hbx f1
            have g2 := ukeep hbx f2
            have g3 := ukeep hbx f3
            have HS := Lib.hid (HS1.out wc hbx)
            have HI7 := Lib.hid (HI6.out.new (Chg.of_below hbx))
            clear hbx f0 f1 f2 f3 c0 c1 c2 c3 hq1 hq2
            have htb := HTB.out
            cases tb with
            | false =>
              have hneg : fv = -1 := by have := of_decide_eq_false htb.symm; omega
              have HUN := Lib.hid (HU2.out hneg)
              have hs1 : (n : Int) - 1 - (k : Int) = (m : Int) := hmi
              have hs2 : IntKind.i64.wrap (m : Int) = (m : Int) := by rw [IntKind.wrap_i64]; omega
              clear hneg hmi htb
              go_wp2_with fail
              refine HS.out.mono ?_
              rintro e w9 ⟨er, rfl, va2, h9⟩
              obtain ⟨e0, e1, e2, e3⟩ := HYC.out w9 h9.a.below
              try dsimp only at e0 e1 e2 e3
              have HS9 := Lib.hid (HS2.out w9 va2 h9)
              clear h9 g0 g1 g2 g3
              go_wp2_with fail
              refine HS9.out.mono ?_
              rintro e w10 ⟨er2, rfl, vb2, h10⟩
              have HI10 := Lib.hid h10
              clear h10 e0 e1 e2 e3
              go_wp2_with fail
              exact ⟨⟨k + 1, by omega, by go_num, va2, vb2, HI10, HUN⟩, by simp [intOf]; omega⟩
            | true =>
              clear htb
              go_wp2_with fail
              go_ret
              exact ⟨rfl, HI7.out.a.below⟩
      · have hkn : k = n := by omega
        have hall : os.take k = os := by rw [hkn, HN.out, List.take_length]
        have hallr : os.reverse.take k = os.reverse := by rw [hkn, HN.out, ← List.length_reverse, List.take_length]
        have hu := HU.out
        have hi := HI.out
        rw [hall] at hu hi
        rw [hallr, sets_rev (by rw [← HN.out]; omega) hu] at hi
        obtain ⟨l, hl⟩ : ∃ l, l = setsL os := ⟨_, rfl⟩
        have hok : OOk l := by rw [hl]; exact setsL_ok os
        rw [← hl] at hi
        obtain ⟨f1, f2, f3, f4, _, f6⟩ := calm_flush (n := 0) (st := newSt 65536) (l := l) (Ease.new 65536) (fun p hp => (by cases hp)) hok (by have := (sealO_len hok).1; show 0 + _ ≤ 65536; omega)
        obtain ⟨S, hS⟩ : ∃ S, S = savedS (newSt 65536) grpF (sealO l) := ⟨_, rfl⟩
        rw [← hS] at f2 f3 f4
        have hFa : ∀ W sb gb vb0, Two w W ⟨d, none, []⟩ gb (newSt 65536) sb oa ob va' vb0 l l → Calls Tryz.prog 14 #[.pointer (some ⟨oa, 0, none⟩)] W fun e w' => e = .returned (.int .i64 0) ∧ ∃ ga, Two w w' ga gb S sb oa ob va' vb0 l l ∧ ga.d = d := fun W sb gb vb0 hW => by
          refine (oflush_any (n := 0) hW.a.oi hok (Ease.new 65536).good (by decide)).mono ?_
          rintro e w' ⟨he, g', h2, h3⟩
          rw [f1] at he
          rw [f2] at h2
          exact ⟨he, g', hW.left (hW.a.to h2 h3) h3, h3.d⟩
        have hFb : ∀ W ga, Two w W ga ⟨f, none, []⟩ S (newSt 65536) oa ob va' vb' l l → Calls Tryz.prog 14 #[.pointer (some ⟨ob, 0, none⟩)] W fun e w' => e = .returned (.int .i64 0) ∧ ∃ gb, Two w w' ga gb S S oa ob va' vb' l l ∧ gb.d = f := fun W ga hW => by
          refine (oflush_any (n := 0) hW.b.oi hok (Ease.new 65536).good (by decide)).mono ?_
          rintro e w' ⟨he, g', h2, h3⟩
          rw [f1] at he
          rw [f2] at h2
          exact ⟨he, g', hW.right (hW.b.to h2 h3) h3, h3.d⟩
        have hSm : ∀ W ga gb, Two w W ga gb S S oa ob va' vb' l l → Calls Tryz.prog 25 #[.pointer (some ⟨ga.d, 0, none⟩), .pointer (some ⟨gb.d, 0, none⟩)] W fun e w' => e = .returned (.bool true) ∧ Chg (fun _ => False) W w' := fun W ga gb hW =>
          same_any ga gb S S W hW.a.oi.disk hW.b.oi.disk ⟨rfl, fun nm F hF => ⟨F, hF, rfl⟩⟩ (fun p hp => by rw [f4 p hp]; unfold maxLen; decide)
        have HI := Lib.hid hi
        have HFA := Lib.hid hFa
        have HFB := Lib.hid hFb
        have HSM := Lib.hid hSm
        have HAG := Lib.hid (agree_self hok.ris)
        have HRS := Lib.hid hok.ris
        have hl64 := hok.len
        clear hFa hFb hSm hok hi hu hall hallr f1 f2 f3 f4 f6 hS hl hkn
        have HA1 := Lib.hid (oall_any HI.out.a.oi.head (by omega))
        go_wp2_with fail
        refine HA1.out.mono ?_
        rintro e w4 ⟨u1, rfl, hr4, hb4, _⟩
        have HI4 := Lib.hid (HI.out.new (Chg.of_below hb4))
        have HR4 := Lib.hid hr4
        have HA4 := Lib.hid (oall_any HI4.out.b.oi.head (by omega))
        clear hr4 hb4
        go_wp2_with fail
        refine HA4.out.mono ?_
        rintro e w5 ⟨u2, rfl, hr5, hb5, _⟩
        have HI5 := Lib.hid (HI4.out.new (Chg.of_below hb5))
        have HS5 := Lib.hid (same_any_o (HR4.out.new hb5).arg hr5.arg (by omega) HAG.out)
        clear hr5 hb5
        go_wp2_with fail
        refine HS5.out.mono ?_
        rintro e w6 ⟨rfl, hb6⟩
        have HI6 := Lib.hid (HI5.out.new (Chg.of_below hb6))
        have HA6 := Lib.hid (oall_any HI6.out.a.oi.head (by omega))
        clear hb6
        go_wp2_with fail
        refine HA6.out.mono ?_
        rintro e w7 ⟨u3, rfl, hr7, hb7, _⟩
        have HI7 := Lib.hid (HI6.out.new (Chg.of_below hb7))
        have HR7 := Lib.hid (rising_any hr7.arg HRS.out (by omega))
        clear hr7 hb7
        go_wp2_with fail
        refine HR7.out.mono ?_
        rintro e w8 ⟨rfl, hb8⟩
        have HF8 := Lib.hid (HFA.out w8 _ _ _ (HI7.out.new (Chg.of_below hb8)))
        clear hb8
        go_wp2_with fail
        refine HF8.out.mono ?_
        rintro e w9 ⟨rfl, ga, h9, hd9⟩
        have HF9 := Lib.hid (HFB.out w9 ga h9)
        have HD9 := Lib.hid hd9
        clear h9 hd9
        go_wp2_with fail
        refine HF9.out.mono ?_
        rintro e w10 ⟨rfl, gb, h10, hd10⟩
        have hs10 := HSM.out w10 ga gb h10
        rw [HD9.out, hd10] at hs10
        have HS10 := Lib.hid hs10
        have HI10 := Lib.hid h10
        clear h10 hd10 hs10
        go_wp2_with fail
        refine HS10.out.mono ?_
        rintro e w11 ⟨rfl, hc11⟩
        have HI11 := Lib.hid (HI10.out.new hc11)
        clear hc11
        go_wp2_with fail
        go_ret
        exact ⟨rfl, HI11.out.a.below⟩
end Go.Proofs.YtemimmnamajooaaGreat
