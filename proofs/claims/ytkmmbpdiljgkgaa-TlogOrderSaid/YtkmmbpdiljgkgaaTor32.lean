/- A part. -/
import Derived.Test.YtkmmbpdiljgkgaaTor12
import Derived.Test.YtkmmbpdiljgkgaaTor31
set_option linter.unusedVariables false
set_option linter.unusedSimpArgs false
namespace Go.Proofs.Ytkmmbpdiljgkgaa
open Go.RowKit Go.Deep
theorem lwf_small {n : Int} (h0 : 0 ≤ n) (h : n ≤ 1000000) : (Lit.int .i64 n).wf = true := by
  have h1 : IntKind.i64.min ≤ n ∧ n ≤ IntKind.i64.max := by
    rw [show IntKind.i64.min = (-9223372036854775808 : Int) from by decide, show IntKind.i64.max = (9223372036854775807 : Int) from by decide]
    omega
  simpa [Lit.wf] using h1
def odue (x : Int) : Nat := 1 + x.toNat % 300
def oL (zs : List Int) (k : Nat) : WL := (List.range k).map fun j => (odue (zs.getD j 0), j)
theorem oL_succ (zs : List Int) (k : Nat) : oL zs (k + 1) = oL zs k ++ [(odue (zs.getD k 0), k)] := by
  unfold oL
  rw [List.range_succ, List.map_append]
  rfl
theorem oL_len (zs : List Int) (k : Nat) : (oL zs k).length = k := by unfold oL; simp
def oLast (zs : List Int) : Nat → Nat
  | 0 => 0
  | k + 1 => max (oLast zs k) (odue (zs.getD k 0))
theorem oLast_le (zs : List Int) : ∀ k, oLast zs k ≤ 300
  | 0 => Nat.zero_le _
  | k + 1 => by
    have h1 := oLast_le zs k
    show max _ (odue _) ≤ 300
    unfold odue
    omega
theorem oL_le (zs : List Int) : ∀ k, ∀ p ∈ oL zs k, p.1 ≤ oLast zs k
  | 0, p, hp => by cases hp
  | k + 1, p, hp => by
    rw [oL_succ] at hp
    show p.1 ≤ max _ _
    rcases List.mem_append.1 hp with a | a
    · have := oL_le zs k p a; omega
    · rw [List.mem_singleton.1 a]; show odue _ ≤ _; omega
theorem oL_ids (zs : List Int) (k : Nat) : (oL zs k).map (·.2) = List.range k := by
  unfold oL
  rw [List.map_map]
  show (List.range k).map (fun j => j) = _
  simp
def idsL (l : WL) : List Int := l.map fun p => (p.2 : Int)
structure OJ (T : List Int) (ws : WL) (N last : Nat) : Prop where
  apart : ∀ p ∈ ws, (p.2 : Int) ∉ T
  nodup : (ws.map (·.2)).Nodup
  len : T.length + ws.length = N
  le : ∀ p ∈ ws, p.1 ≤ last
  small : ∀ p ∈ ws, p.2 < N
theorem OJ.start (zs : List Int) (N : Nat) : OJ [] (oL zs N) N (oLast zs N) := by
  refine ⟨fun p hp => List.not_mem_nil, by rw [oL_ids]; exact List.nodup_range, by rw [oL_len]; exact Nat.zero_add _, oL_le zs N, fun p hp => ?_⟩
  have : p.2 ∈ (oL zs N).map (·.2) := List.mem_map_of_mem hp
  rw [oL_ids] at this
  exact List.mem_range.1 this
theorem nodup_inj : ∀ {ws : WL}, (ws.map (·.2)).Nodup → ∀ {p q : Nat × Nat}, p ∈ ws → q ∈ ws → p.2 = q.2 → p = q
  | [], _, p, q, hp, _, _ => by cases hp
  | x :: l, h, p, q, hp, hq, e => by
    rw [List.map_cons, List.nodup_cons] at h
    rcases List.mem_cons.1 hp with hp1 | hp1
    · rcases List.mem_cons.1 hq with hq1 | hq1
      · rw [hp1, hq1]
      · exact absurd (List.mem_map.2 ⟨q, hq1, by rw [← e, hp1]⟩) h.1
    · rcases List.mem_cons.1 hq with hq1 | hq1
      · exact absurd (List.mem_map.2 ⟨p, hp1, by rw [e, hq1]⟩) h.1
      · exact nodup_inj h.2 hp1 hq1 e
theorem part_len : ∀ (ws : WL) (x : Nat), (comeL ws x).length + (restL ws x).length = ws.length
  | [], _ => rfl
  | p :: l, x => by
    have ih := part_len l x
    unfold comeL restL at ih ⊢
    by_cases h : p.1 = x
    · rw [List.filter_cons_of_pos (by simp [h]), List.filter_cons_of_neg (by simp [h])]
      simp only [List.length_cons]; omega
    · rw [List.filter_cons_of_neg (by simp [h]), List.filter_cons_of_pos (by simp [h])]
      simp only [List.length_cons]; omega
theorem OJ.next {T : List Int} {ws : WL} {N last : Nat} (h : OJ T ws N last) (x : Nat) : OJ (T ++ idsL (comeL ws x)) (restL ws x) N last := by
  refine ⟨fun p hp hx => ?_, (List.filter_sublist.map _).nodup h.nodup, ?_, fun p hp => h.le p (List.mem_filter.1 hp).1, fun p hp => h.small p (List.mem_filter.1 hp).1⟩
  · obtain ⟨h1, h2⟩ := List.mem_filter.1 hp
    rcases List.mem_append.1 hx with a | a
    · exact h.apart p h1 a
    · obtain ⟨q, hq, e⟩ := List.mem_map.1 a
      obtain ⟨q1, q2⟩ := List.mem_filter.1 hq
      have hpq := nodup_inj h.nodup h1 q1 (by omega)
      subst hpq
      simp at h2 q2
      exact h2 q2
  · rw [List.length_append]
    unfold idsL
    rw [List.length_map]
    have := part_len ws x
    have := h.len
    omega
theorem OJ.fresh {T : List Int} {ws : WL} {N last : Nat} (h : OJ T ws N last) (x : Nat) {j : Nat} {p : Nat × Nat} (hp : (comeL ws x)[j]? = some p) : (p.2 : Int) ∉ T ++ idsL ((comeL ws x).take j) := fun hx => by
  have hm := List.mem_of_getElem? hp
  rcases List.mem_append.1 hx with a | a
  · exact h.apart p (List.mem_filter.1 hm).1 a
  · obtain ⟨q, hq, e⟩ := List.mem_map.1 a
    have e : q.2 = p.2 := by omega
    have hs : (((comeL ws x).take (j + 1)).map (·.2)).Nodup := (((List.take_sublist _ _).trans List.filter_sublist).map _).nodup h.nodup
    rw [take_step hp, List.map_append, List.nodup_append] at hs
    exact hs.2.2 q.2 (List.mem_map_of_mem hq) p.2 (by simp) e
theorem idsL_take {l : WL} {j : Nat} {p : Nat × Nat} (hp : l[j]? = some p) (T : List Int) : T ++ idsL (l.take (j + 1)) = (T ++ idsL (l.take j)) ++ [(p.2 : Int)] := by
  unfold idsL
  rw [take_step hp, List.map_append, List.append_assoc]
  rfl
theorem OJ.count {T : List Int} {ws : WL} {N last : Nat} (h : OJ T ws N last) (x j : Nat) : (T ++ idsL ((comeL ws x).take j)).length ≤ N := by
  have h1 := part_len ws x
  have h2 := h.len
  unfold idsL
  rw [List.length_append, List.length_map, List.length_take]
  omega
attribute [local go_sem] fr_opt
theorem tints_form {k : IntKind} {w : World} {v : Value} {zs : List Int} (h : IntsOf k w v zs) : ∃ a cap, v = .slice a zs.length cap := by
  obtain ⟨a, cap, e, _⟩ := h
  exact ⟨a, cap, e⟩
theorem tints_cell {k : IntKind} {w : World} {a : Option Addr} {n cap i : Nat} {zs : List Int} (h : IntsOf k w (.slice a n cap) zs) (hk : i < zs.length) : ∃ b o, a = some ⟨b, o, none⟩ ∧ w.cell? ⟨b, o + i, none⟩ = some (.int k (zs.getD i 0)) := by
  obtain ⟨a', cap', e, h⟩ := h
  cases e
  rcases h with h | ⟨b, o, e, h⟩
  · rw [h] at hk; simp at hk
  · exact ⟨b, o, e, h i hk⟩
structure InJ (w0 w : World) (F : Nat → Prop) (lb n hd P cap : Nat) (ws : WL) (m : Nat) (T : List Int) (v : Value) (x : Nat) (l : List MkM) (cs : WL) : Prop where
  log : TJ w0 w F lb n hd P cap ws
  map : MapK nK boolEl w m (onesM T)
  told : Told w v x l cs
  mF : ¬ F m
  mlow : w0.heap.size ≤ m
  vm : ∀ q, v.ownBlock = some q → q ≠ m
theorem InJ.new {w0 w w' : World} {F : Nat → Prop} {lb n hd P cap : Nat} {ws : WL} {m : Nat} {T : List Int} {v : Value} {x : Nat} {l : List MkM} {cs : WL} (h : InJ w0 w F lb n hd P cap ws m T v x l cs) (hc : Chg (fun _ => False) w w') : InJ w0 w' F lb n hd P cap ws m T v x l cs :=
  ⟨h.log.new hc, h.map.heap (hc.block _ h.map.lt (fun x => x)), ⟨h.told.row.new hc, h.told.eq, h.told.ps⟩, h.mF, h.mlow, h.vm⟩
theorem InJ.store {w0 w w' : World} {F : Nat → Prop} {lb n hd P cap : Nat} {ws : WL} {m : Nat} {T T' : List Int} {v : Value} {x : Nat} {l : List MkM} {cs : WL} (h : InJ w0 w F lb n hd P cap ws m T v x l cs) (hg : w.grownBy w' (some m)) (hm : MapK nK boolEl w' m (onesM T')) : InJ w0 w' F lb n hd P cap ws m T' v x l cs := by
  have hc : Chg (fun q => q = m) w w' := Chg.of_grown hg (fun q hq _ => (Option.some.inj hq).symm)
  exact ⟨h.log.chgd hc (fun q hq e => h.mF (e ▸ hq)) (fun q hq e => by have := h.mlow; omega), hm, ⟨h.told.row.chg hc (fun q hq e => h.vm q hq e), h.told.eq, h.told.ps⟩, h.mF, h.mlow, h.vm⟩
set_option maxHeartbeats 8000000 in
set_option maxRecDepth 100000 in
theorem walk_TlogOrder (v : Value) (zs : List Int) (w : World) (hv : IntsOf .u16 w v zs) (hf : ∀ n ∈ zs, (Lit.int .u16 n).wf = true) :
    Calls Try.prog 5 #[v] w fun e w' => e = .returned (.bool true) ∧ Below w.heap.size w w' := by
  obtain ⟨a, cap, rfl⟩ := tints_form hv
  have HAW := Lib.hid (tawake_any w)
  have hcl : ∀ W, Below w.heap.size w W → ∀ k, k < zs.length → ∃ b o, a = some ⟨b, o, none⟩ ∧ W.cell? ⟨b, o + k, none⟩ = some (.int .u16 (zs.getD k 0)) := fun W hb k hk => tints_cell (hv.below hb (Nat.le_refl _)) hk
  have hwf : ∀ k, k < zs.length → 0 ≤ zs.getD k 0 ∧ zs.getD k 0 ≤ 65535 := fun k hk => by
    rw [List.getD_eq_getElem?_getD, List.getElem?_eq_getElem hk]
    exact twfu16 (hf _ (List.getElem_mem hk))
  obtain ⟨N, hN⟩ : ∃ N, N = zs.length := ⟨_, rfl⟩
  have HCL := Lib.hid hcl
  have HWF := Lib.hid hwf
  have HN := Lib.hid hN
  rw [← hN]
  clear hcl hwf hN hv hf
  by_cases h40 : 40 < N
  · have h40' : (40 : Int) < (N : Int) := by omega
    clear h40
    go_enter Try.func5, Try.ntmps5
    go_wp2_with fail
    refine HAW.out.mono ?_
    rintro e w1 ⟨rfl, hb1⟩
    have HB1 := Lib.hid hb1
    clear hb1
    go_wp2_with fail
    go_ret
    exact ⟨rfl, HB1.out⟩
  · have h40' : ¬ (40 : Int) < (N : Int) := by omega
    have hN40 : N ≤ 40 := by omega
    clear h40
    go_enter Try.func5, Try.ntmps5
    go_wp2_with fail
    refine HAW.out.mono ?_
    rintro e w1 ⟨rfl, hb1⟩
    have HB1 := Lib.hid hb1
    clear hb1
    go_wp2_with fail
    refine (new_any 1048576 w1).mono ?_
    rintro e w2 ⟨rfl, hd2, hb2⟩
    have HQ := Lib.hid (snew_any (w0 := w) (Chg.of_below HB1.out) 0 1048576 (by decide) hd2 hb2 (by decide) (by decide))
    clear hd2 hb2
    go_wp2_with fail
    refine HQ.out.mono ?_
    rintro e w3 ⟨lb, F3, rfl, h3⟩
    obtain ⟨cp, hcp⟩ : ∃ c : Nat, c = (min (max 1048576 0) 16777216 : Int).toNat := ⟨_, rfl⟩
    have hcp2 : cp = 1048576 := hcp
    rw [← hcp] at h3
    have H3 : Hid (TJ w w3 F3 lb 3 0 0 cp (oL zs 0)) := Lib.hid ⟨⟨noC, 0, h3, RelC.none, Nat.le_refl _⟩, fun p hp => by cases hp⟩
    clear h3 hcp
    go_wp2_with fail
    go_loopw [5, 32] (fun x i wr => ∃ (k : Nat) (F : Nat → Prop), k ≤ N ∧ i = .int .i64 (k : Int) ∧ x = .int .i64 (oLast zs k : Nat) ∧ Hid (TJ w wr F lb (3 + 2 * k) 0 (31 * k) cp (oL zs k))) (fun _ i _ => N - (intOf i).toNat)
    case atStart => exact ⟨0, F3, Nat.zero_le _, rfl, rfl, H3⟩
    case round =>
      obtain ⟨k, F, hk, rfl, rfl, HJ⟩ := hrel
      by_cases hlt : k < N
      · as_aux_lemma =>
          have hlt' : (k : Int) < (N : Int) := by omega
          obtain ⟨b, o, rfl, hc0⟩ := HCL.out wr HJ.out.below k (by rw [← HN.out]; exact hlt)
          obtain ⟨p0, p1⟩ := HWF.out k (by rw [← HN.out]; exact hlt)
          have hsucc := oL_succ zs k
          have hlast : oLast zs (k + 1) = max (oLast zs k) (odue (zs.getD k 0)) := rfl
          obtain ⟨x, hx⟩ : ∃ x, x = zs.getD k 0 := ⟨_, rfl⟩
          rw [← hx] at hc0 p0 p1 hsucc hlast
          have hod : odue x ≤ 300 ∧ 1 ≤ odue x := by unfold odue; omega
          have hP := HJ.out.put (by omega) (odue x) k (by omega) (by omega) (by omega) (by rw [hcp2]; omega)
          rw [← hsucc] at hP
          obtain ⟨R, hR, hR2⟩ : ∃ R : Int, Int.tmod x 300 = R ∧ 1 + R = (odue x : Nat) := ⟨_, rfl, by rw [Int.tmod_eq_emod_of_nonneg p0]; unfold odue; omega⟩
          obtain ⟨D, hD⟩ : ∃ D : Int, D = (odue x : Nat) := ⟨_, rfl⟩
          rw [← hD] at hP hR2
          have e2 : IntKind.i64.wrap (1 + R) = D := by rw [hR2]; exact IntWalk.i64_in _ (by omega)
          obtain ⟨A, hA⟩ : ∃ A : Int, A = (oLast zs k : Nat) := ⟨_, rfl⟩
          obtain ⟨B, hB⟩ : ∃ A : Int, A = (oLast zs (k + 1) : Nat) := ⟨_, rfl⟩
          have e3 : max A D = B := by rw [hA, hB, hD, hlast]; omega
          rw [← hA]
          have HP := Lib.hid hP
          have HB := Lib.hid hB
          clear hP hsucc hlast hx hR2 hD hA hB hod hlt
          go_wp2_with fail
          refine HP.out.mono ?_
          rintro e w4 ⟨rfl, F4, h4, _⟩
          have H4 := Lib.hid (h4.more (m := 3 + 2 * (k + 1)) (Q := 31 * (k + 1)) (by omega) (by omega))
          clear h4
          go_wp2_with fail
          exact ⟨⟨k + 1, F4, by omega, by go_num, by rw [HB.out], H4⟩, by simp [intOf]; omega⟩
      · have hkN : k = N := by omega
        subst hkN
        obtain ⟨m, hm⟩ : ∃ m, m = wr.heap.size := ⟨_, rfl⟩
        obtain ⟨W5, hW5⟩ : ∃ W, W = wr.alloc (.map #[] 0) := ⟨_, rfl⟩
        have hc5 : Chg (fun _ => False) wr W5 := hW5 ▸ Chg.alloc _ (Chg.refl _ _) _
        have hM5 : MapK nK boolEl W5 m (onesM []) := by rw [hW5, hm]; exact MapK.made wr
        have hJ5 := HJ.out.new hc5
        have hmF : ¬ F m := fun hx => by have := (HJ.out.low m hx).2; omega
        have hmw : w.heap.size ≤ m := by rw [hm]; exact HJ.out.below.size
        have hll := oLast_le zs k
        have hOJ := OJ.start zs k
        obtain ⟨la, hla⟩ : ∃ la, la = oLast zs k := ⟨_, rfl⟩
        rw [← hla] at hll hOJ ⊢
        have HM5 := Lib.hid hM5
        have HJ5 := Lib.hid hJ5
        have HMF := Lib.hid hmF
        have HMW := Lib.hid hmw
        have HOJ := Lib.hid hOJ
        have HW5 := Lib.hid hW5
        have HMM := Lib.hid hm
        clear hm hW5 hc5 hM5 hJ5 hmF hmw hOJ hla hlt HCL HWF HJ
        have hmm := @run_makeMap Try.prog
        go_upto_region 18 with fail
        rw [← HW5.out, ← HMM.out]
        go_wp2_with fail
        go_loopg [10] (la + 1) (fun gg x wr => ∃ (hd wz n : Nat) (F : Nat → Prop) (T : List Int) (ws : WL), hd ≤ la ∧ gg = la + 1 - hd ∧ x = .int .i64 (wz : Int) ∧ wz ≤ hd ∧ n ≤ 3 + 2 * k + 2 * hd ∧ Hid (TJ w wr F lb n hd (31 * k + 40 * hd) cp ws) ∧ Hid (MapK nK boolEl wr m (onesM T)) ∧ Hid (¬ F m) ∧ Hid (OJ T ws k la))
        case atStart => exact ⟨0, 0, _, F, [], _, Nat.zero_le _, rfl, rfl, Nat.le_refl _, Nat.le_refl _, HJ5, HM5, HMF, HOJ⟩
        case round =>
          obtain ⟨hd, wz, n, F, T, ws, hhd, hgg, rfl, hwz, hn, HJ, HM, HF, HO⟩ := hrel
          by_cases hlt : hd < la
          · as_aux_lemma =>
              have hwl : ws.length ≤ 40 := by have := HO.out.len; omega
              have hN := HJ.out.next (by omega) (la : Int) (by omega) (by omega) (by rw [hcp2]; omega)
              have HN := Lib.hid hN
              clear hN
              go_wp2_with fail
              refine HN.out.mono ?_
              rintro e w6 ⟨v6, F6, l, rfl, h6, t6, htold, hov⟩
              have hmlt := HM.out.lt
              have hM6 : MapK nK boolEl w6 m (onesM T) := HM.out.heap (t6.chg.block m hmlt HF.out)
              have hF6 : ¬ F6 m := fun hx => by
                rcases t6.fp m hx with a | a
                · exact HF.out a
                · omega
              have hvm : ∀ q, v6.ownBlock = some q → q ≠ m := fun q hq e => by have := hov q hq; omega
              have hlen := htold.len
              obtain ⟨va, vc, hv6⟩ := htold.row.len layM
              obtain ⟨cs, hcs⟩ : ∃ cs, cs = comeL ws (hd + 1) := ⟨_, rfl⟩
              obtain ⟨ws', hws'⟩ : ∃ ws', ws' = restL ws (hd + 1) := ⟨_, rfl⟩
              obtain ⟨cn, hcn⟩ : ∃ cn, cn = l.length := ⟨_, rfl⟩
              rw [← hcn] at hv6 hlen
              have hT0 : T ++ idsL (cs.take 0) = T := by rw [List.take_zero]; exact List.append_nil T
              have hI : InJ w w6 F6 lb (n + 2) (hd + 1) (31 * k + 40 * hd + ws.length) cp ws' m (T ++ idsL (cs.take 0)) v6 (hd + 1) l (comeL ws (hd + 1)) := ⟨by rw [hws']; exact h6, by rw [hT0]; exact hM6, htold, hF6, HMW.out, hvm⟩
              have hfr : ∀ j p, cs[j]? = some p → (p.2 : Int) ∉ T ++ idsL (cs.take j) ∧ p.2 ≤ 40 ∧ T ++ idsL (cs.take (j + 1)) = (T ++ idsL (cs.take j)) ++ [(p.2 : Int)] ∧ (onesM (T ++ idsL (cs.take j))).length < maxLen := fun j p hp => by
                have hp' := hp
                rw [hcs] at hp'
                have h1 := HO.out.fresh (hd + 1) hp'
                have h2 := HO.out.small p (come_mem (List.mem_of_getElem? hp')).1
                have h3 := HO.out.count (hd + 1) j
                rw [← hcs] at h1 h3
                refine ⟨h1, by omega, idsL_take hp T, ?_⟩
                unfold onesM maxLen
                rw [List.length_map]
                omega
              have hend : OJ (T ++ idsL (cs.take cn)) ws' k la := by
                rw [hlen, hws', hcs, List.take_length]
                exact HO.out.next (hd + 1)
              subst hv6
              have HI := Lib.hid hI
              have HFR := Lib.hid hfr
              have HEND := Lib.hid hend
              have HCS := Lib.hid hcs
              have HCN : Hid (cn = cs.length) := Lib.hid (by rw [hlen, hcs])
              have HGG := Lib.hid hgg
              have hcn40 : cn ≤ 40 := by rw [hlen]; exact Nat.le_trans (List.length_filter_le _ _) hwl
              clear h6 t6 htold hov hmlt hM6 hF6 hvm hlen hT0 hI hfr hend hcs hws' hcn HN hgg
              go_wp2_with fail
              go_loopw [10, 64] (fun x i wi => ∃ (j wy : Nat), j ≤ cn ∧ x = .int .i64 (wy : Int) ∧ wy ≤ hd + 1 ∧ i = .int .i64 (j : Int) ∧ Hid (InJ w wi F6 lb (n + 2) (hd + 1) (31 * k + 40 * hd + ws.length) cp ws' m (T ++ idsL (cs.take j)) (.slice va cn vc) (hd + 1) l (comeL ws (hd + 1)))) (fun _ i _ => cn - (intOf i).toNat)
              case atStart => exact ⟨0, wz, Nat.zero_le _, rfl, by omega, rfl, HI⟩
              case round =>
                obtain ⟨j, wy, hj, rfl, hwy, rfl, HIj⟩ := hrel
                by_cases hjl : j < cn
                · as_aux_lemma =>
                    have hjl' : (j : Int) < (cn : Int) := by omega
                    obtain ⟨p, hp⟩ : ∃ p, cs[j]? = some p := ⟨_, List.getElem?_eq_getElem (by rw [← HCN.out]; exact hjl)⟩
                    obtain ⟨f1, f2, f3, f4⟩ := HFR.out j p hp
                    have hp' := hp
                    rw [HCS.out] at hp'
                    obtain ⟨q, ps, rfl, c0, c1, c3, _, ah, c2⟩ := HIj.out.told.at_ hp'
                    obtain ⟨X, hX⟩ : ∃ X : Int, X = ((hd + 1 : Nat) : Int) := ⟨_, rfl⟩
                    obtain ⟨R, hR⟩ : ∃ R : Int, R = ((p.2 : Nat) : Int) := ⟨_, rfl⟩
                    rw [← hX] at c0
                    rw [← hR] at c1 f1 f3
                    have hR0 : 0 ≤ R ∧ R ≤ 1000000 := by omega
                    have g1 : ¬ X < (wy : Int) := by omega
                    have g2 : decide (X < (wy : Int)) = false := decide_eq_false g1
                    have g3 : (X != X) = false := by simp
                    obtain ⟨Y, hY⟩ : ∃ Y, Y = wr.heap.size := ⟨_, rfl⟩
                    obtain ⟨W7, hW7⟩ : ∃ W, W = wr.alloc (.cells #[.int .i64 X, .int .i64 R, .int .i64 (ah : Int), .int .i64 (ps : Int)] 38) := ⟨_, rfl⟩
                    have hc7 : Chg (fun _ => False) wr W7 := hW7 ▸ Chg.alloc _ (Chg.refl _ _) _
                    have hI7 := HIj.out.new hc7
                    have k0 : W7.cell? ⟨Y, 0, none⟩ = some (.int .i64 X) := by rw [hW7, hY]; exact cells4 wr X R _ _ _ 0 (by decide)
                    have k1 : W7.cell? ⟨Y, 1, none⟩ = some (.int .i64 R) := by rw [hW7, hY]; exact cells4 wr X R _ _ _ 1 (by decide)
                    have hlk : ∀ i, (Instr.lookup 46 (.map (some m)) (.int .i64 R) false).run Try.prog (W7.drewN i) = .ok (.bool false) (W7.drewN i) := fun i => by
                      have := (hI7.new ((Chg.refl _ _).drewN i)).map.look (t := 46) (e := 4) Try.underlying46 (bool_zero _) R (lwf_small hR0.1 hR0.2) false
                      rw [ones_get f1] at this
                      exact this
                    have hH : ∀ i, Calls Try.prog 12 #[.pointer (some ⟨lb, 0, none⟩)] (W7.drewN i) fun e w' => e = .returned (.int .i64 X) ∧ w' = W7.drewN i := fun i => by
                      refine (hI7.log.new ((Chg.refl _ _).drewN i)).hand.mono ?_
                      rintro e w' ⟨rfl, rfl⟩
                      exact ⟨by rw [hX], rfl⟩
                    have HH := Lib.hid hH
                    have HI7 := Lib.hid hI7
                    have HW7 := Lib.hid hW7
                    have HY := Lib.hid hY
                    have HX := Lib.hid hX
                    have HPUT : Hid (dropK (onesM (T ++ idsL (cs.take j))) R ++ [(R, true)] = onesM (T ++ idsL (cs.take (j + 1)))) := Lib.hid (by rw [ones_put f1, f3])
                    clear hH hI7 hW7 hY hX hR hp hp' f1 f3 hc7 f2 hjl
                    go_upto_region 26 with fail
                    rw [← HW7.out, ← HY.out]
                    go_quiet ((go_at_call 12; exact Calls.quiet_of_same (HH.out _)))
                    go_wp2_with (with_reducible refine wpList_store_ib rfl (.tmp 85) (.tmp 87) (.const (.bool true)) rfl m (onesM (T ++ idsL (cs.take j))) R true rfl rfl rfl (HI7.out.new ((Chg.refl _ _).drewN _)).map (lwf_small hR0.1 hR0.2) f4 ?c2)
                    case c2 =>
                      intro w8 hm8 hg8 hs8
                      rw [HPUT.out] at hm8
                      have HI8 := Lib.hid ((HI7.out.new ((Chg.refl _ _).drewN _)).store hg8 hm8)
                      have k0 : w8.cell? ⟨Y, 0, none⟩ = some (.int .i64 X) := by
                        refine (Chg.of_grown (S := fun q => q = m) hg8 (fun q hq _ => (Option.some.inj hq).symm)).cell k0 (fun e => ?_)
                        have := HIj.out.map.lt
                        have hh := HY.out
                        have e : Y = m := e
                        omega
                      clear hm8 hg8 hlk
                      go_wp2_with fail
                      exact ⟨⟨j + 1, hd + 1, by omega, by rw [HX.out], Nat.le_refl _, by go_num, HI8⟩, by simp [intOf]; omega⟩
                · as_aux_lemma =>
                    have hjc : j = cn := by omega
                    subst hjc
                    have hL := HIj.out.log.more (m := 3 + 2 * k + 2 * (hd + 1)) (Q := 31 * k + 40 * (hd + 1)) (by omega) (by omega)
                    have HL := Lib.hid hL
                    have HM9 := Lib.hid HIj.out.map
                    have HF9 := Lib.hid HIj.out.mF
                    clear hL
                    go_wp2_with fail
                    go_roundg (la + 1 - (hd + 1))
                    case measure => have := HGG.out; omega
                    case rel => exact ⟨hd + 1, wy, _, F6, _, ws', by omega, rfl, rfl, hwy, by omega, HL, HM9, HF9, HEND⟩
          · as_aux_lemma =>
              have hde : hd = la := by omega
              have hws : ws = [] := by
                cases ws with
                | nil => rfl
                | cons p l =>
                  have h1 := HJ.out.later p (by simp)
                  have h2 := HO.out.le p (by simp)
                  omega
              subst hws
              have hTk : T.length = k := by have := HO.out.len; simpa using this
              have HOF := Lib.hid (HJ.out.off (la : Int) (by omega) (by omega))
              have hfin : ∀ W, Below wr.heap.size wr W → Hid (TJ w W F lb n hd (31 * k + 40 * hd) cp [] ∧ MapK nK boolEl W m (onesM T)) := fun W hW => Lib.hid ⟨HJ.out.new (Chg.of_below hW), HM.out.heap (hW.block m HM.out.lt)⟩
              have HFI := Lib.hid hfin
              have HTK := Lib.hid hTk
              have HDE := Lib.hid hde
              clear hTk hfin hgg hde hlt
              go_wp2_with fail
              refine HOF.out.mono ?_
              rintro e w6 ⟨rfl, hb6⟩
              have HB6 := Lib.hid hb6
              have HWT := Lib.hid (HFI.out w6 hb6).out.1.waits
              clear hb6
              go_wp2_with fail
              refine HWT.out.mono ?_
              rintro e w7 ⟨rfl, hb7⟩
              have h7 := HFI.out w7 (HB6.out.trans (hb7.mono HB6.out.size))
              have HHD := Lib.hid h7.out.1.hand
              rw [HDE.out] at HHD
              have hml := h7.out.2.len (t := 46) (e := 4) Try.underlying46 3
              rw [show (onesM T).length = k from by unfold onesM; rw [List.length_map, HTK.out]] at hml
              have HBE := Lib.hid h7.out.1.below
              clear hb7 h7
              go_wp2_with fail
              refine HHD.out.mono ?_
              rintro e w8 ⟨rfl, rfl⟩
              go_wp2_with fail
              go_ret
              exact ⟨rfl, HBE.out⟩
end Go.Proofs.Ytkmmbpdiljgkgaa
