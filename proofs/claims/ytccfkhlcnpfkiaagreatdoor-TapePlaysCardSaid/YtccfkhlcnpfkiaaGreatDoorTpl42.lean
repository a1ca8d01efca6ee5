/- A part. -/
import Derived.Shelf.Slices.Empties
import Derived.Test.YtccfkhlcnpfkiaaGreatDoorTpl41
set_option linter.unusedVariables false
set_option linter.unusedSimpArgs false
namespace Go.Proofs.YtccfkhlcnpfkiaaGreatDoor
open Go.RowKit Go.Deep
def lowN (ids : List Int) (a : Int) : Nat := ids.countP (· < a)
theorem lowN_le (ids : List Int) (a : Int) : lowN ids a ≤ ids.length := List.countP_le_length
def FromTo (w : World) (l : List Int) (e : Ending) (w' : World) : Prop := ∃ v', e = .returned v' ∧ Ints w v' l ∧ CapOk v' ∧ ∃ q, w' = w.drewN q
theorem own_form' {w : World} {base : Nat} {ids : List Int} {v : Value} (h : OwnI w base v ids) :
    (ids = [] ∧ v = .slice none 0 0) ∨ ∃ g o c, v = .slice (some ⟨g, o, none⟩) ids.length c ∧ ids.length ≤ c ∧ ∀ i, i < ids.length → w.cell? ⟨g, o + i, none⟩ = some (.int .i64 (ids.getD i 0)) := by
  rcases h with ⟨e, h0⟩ | ⟨g, o, cap, e, _, _, hc, _, hcell, _⟩
  · exact .inl ⟨h0, e⟩
  · exact .inr ⟨g, o, cap, e, hc, hcell⟩
set_option maxRecDepth 100000 in
theorem tfrom_any {w0 w : World} {tb d : Nat} {t : TapeM} (h : TapeAt w0 w tb d t) (hs : t.ids.Pairwise (· ≤ ·)) (hn : t.ids.length ≤ 1000000) (a : Int) :
    Calls Tryz.prog 59 #[.pointer (some ⟨tb, 0, none⟩), .int .i64 a] w (FromTo w (t.ids.drop (lowN t.ids a))) := by
  obtain ⟨c0, c1, c2, c3, c4, c5, z⟩ := h.cell
  obtain ⟨i, hi⟩ : ∃ i, i = lowN t.ids a := ⟨_, rfl⟩
  have hil : i ≤ t.ids.length := hi ▸ lowN_le _ _
  rcases own_form' h.own with ⟨h0, hv⟩ | ⟨g, o, c, hv, hc, hcell⟩
  · rw [hv] at c4
    have hi0 : i = 0 := by rw [h0] at hil; simpa using hil
    have HB : Hid (Calls Tryz.prog 94 #[.slice none 0 0, .int .i64 a] w fun e w' => e = .returned (.tuple #[.int .i64 0, .bool false]) ∧ ∃ q, w' = w.drewN q) := Lib.hid ((Any.slices_BinarySearch_int_empty Tryz.laysNm225 none 0 a w).mono fun e w' h => ⟨h.1, 0, h.2⟩)
    have H0 := Lib.hid h0
    clear c0 c1 c2 c3 c5 z h hs hn hv hi hil hi0 h0
    go_enter Tryz.func59, Tryz.ntmps59
    go_wp2_with fail
    refine HB.out.mono ?_
    rintro e w1 ⟨rfl, q, rfl⟩
    go_wp2_with fail
    go_ret
    exact ⟨_, rfl, by rw [H0.out]; exact ⟨none, 0, by simp, .inl (by simp)⟩, ⟨none, 0, 0, rfl, Nat.le_refl _⟩, q, rfl⟩
  · rw [hv] at c4
    have HB := Lib.hid (Tryz.slices_BinarySearch_int g o t.ids.length c t.ids a w (Nat.le_refl _) (by omega) (fun j hj => hcell j hj) (by rw [List.take_length]; exact hs))
    rw [List.take_length, show t.ids.countP (· < a) = i from hi.symm] at HB
    obtain ⟨bb, hbb⟩ : ∃ bb, t.ids.contains a = bb := ⟨_, rfl⟩
    rw [hbb] at HB
    obtain ⟨n, hn'⟩ : ∃ n, n = t.ids.length := ⟨_, rfl⟩
    rw [← hn'] at c4 HB hil hn hc
    have HV : Hid (Ints w (.slice (some ⟨g, o + i, none⟩) (n - i) (c - i)) (t.ids.drop i)) := Lib.hid ⟨_, _, by rw [List.length_drop, hn'], .inr ⟨g, o + i, rfl, fun j hj => by
      rw [List.length_drop] at hj
      rw [Nat.add_assoc, hcell (i + j) (by omega)]
      simp [List.getD_eq_getElem?_getD, List.getElem?_drop]⟩⟩
    rw [← hi]
    have HNL := Lib.hid hn'
    clear c0 c1 c2 c3 c5 z h hs hv hi hcell hbb hn'
    go_enter Tryz.func59, Tryz.ntmps59
    go_wp2_with fail
    refine HB.out.mono ?_
    rintro e w1 ⟨rfl, q, rfl⟩
    go_wp2_with fail
    · go_ret
      refine ⟨_, rfl, ?_, ⟨_, _, _, rfl, by omega⟩, q, rfl⟩
      have hd : n - i = 0 := by omega
      have hl0 : t.ids.drop i = [] := by rw [List.drop_eq_nil_iff]; have := HNL.out; omega
      rw [hl0]
      exact ⟨_, _, by rw [hd]; rfl, .inl rfl⟩
    · go_ret
      exact ⟨_, rfl, HV.out, ⟨_, _, _, rfl, by omega⟩, q, rfl⟩
section
variable {w : World} {ops : Array Oper} {rest : List Oper} {o : Oper} {a : Act} {Q : Exit → Act → World → Prop}
end
def FromO (w : World) (base : Nat) (v : Value) (l : List Int) (e : Ending) (w' : World) : Prop := ∃ v', e = .returned v' ∧ OwnI w base v' l ∧ (v'.ownBlock = v.ownBlock) ∧ ∃ q, w' = w.drewN q
set_option maxRecDepth 100000 in
theorem tfrom_own {w0 w : World} {tb d : Nat} {t : TapeM} (h : TapeAt w0 w tb d t) (hs : t.ids.Pairwise (· ≤ ·)) (hn : t.ids.length ≤ 1000000) (a : Int) :
    Calls Tryz.prog 59 #[.pointer (some ⟨tb, 0, none⟩), .int .i64 a] w (FromO w w0.heap.size t.v (t.ids.drop (lowN t.ids a))) := by
  obtain ⟨c0, c1, c2, c3, c4, c5, z⟩ := h.cell
  obtain ⟨i, hi⟩ : ∃ i, i = lowN t.ids a := ⟨_, rfl⟩
  have hil : i ≤ t.ids.length := hi ▸ lowN_le _ _
  rcases own_form' h.own with ⟨h0, hv⟩ | ⟨g, o, c, hv, hc, hcell⟩
  · have HV := Lib.hid hv
    rw [hv] at c4
    have hi0 : i = 0 := by rw [h0] at hil; simpa using hil
    have HB : Hid (Calls Tryz.prog 94 #[.slice none 0 0, .int .i64 a] w fun e w' => e = .returned (.tuple #[.int .i64 0, .bool false]) ∧ ∃ q, w' = w.drewN q) := Lib.hid ((Any.slices_BinarySearch_int_empty Tryz.laysNm225 none 0 a w).mono fun e w' h => ⟨h.1, 0, h.2⟩)
    have H0 := Lib.hid h0
    clear c0 c1 c2 c3 c5 z h hs hn hv hi hil hi0 h0
    go_enter Tryz.func59, Tryz.ntmps59
    go_wp2_with fail
    refine HB.out.mono ?_
    rintro e w1 ⟨rfl, q, rfl⟩
    go_wp2_with fail
    go_ret
    exact ⟨.slice none 0 0, rfl, by rw [H0.out]; exact ownI_nil _ _, by rw [HV.out], q, rfl⟩
  · have hown := h.own
    have HV := Lib.hid hv
    rw [hv] at c4 hown
    have HB := Lib.hid (Tryz.slices_BinarySearch_int g o t.ids.length c t.ids a w (Nat.le_refl _) (by omega) (fun j hj => hcell j hj) (by rw [List.take_length]; exact hs))
    rw [List.take_length, show t.ids.countP (· < a) = i from hi.symm] at HB
    obtain ⟨bb, hbb⟩ : ∃ bb, t.ids.contains a = bb := ⟨_, rfl⟩
    rw [hbb] at HB
    have HOD := Lib.hid (hown.drop i hil)
    have HO0 := Lib.hid (OwnI.lt hown g rfl)
    obtain ⟨n, hn'⟩ : ∃ n, n = t.ids.length := ⟨_, rfl⟩
    rw [← hn'] at c4 HB hil hn hc HOD
    rw [← hi]
    have HNL := Lib.hid hn'
    clear c0 c1 c2 c3 c5 z h hs hv hi hcell hbb hn' hown
    go_enter Tryz.func59, Tryz.ntmps59
    go_wp2_with fail
    refine HB.out.mono ?_
    rintro e w1 ⟨rfl, q, rfl⟩
    go_wp2_with fail
    · go_ret
      have hd : n - i = 0 := by omega
      have hl0 : t.ids.drop i = [] := by rw [List.drop_eq_nil_iff]; have := HNL.out; omega
      rw [hl0]
      exact ⟨.slice (some ⟨g, o, none⟩) 0 0, by rw [hd]; rfl, .inr ⟨g, o, 0, rfl, HO0.out.1, HO0.out.2, Nat.zero_le _, Nat.zero_le _, fun j hj => by simp at hj, fun j hj => by omega⟩, by rw [HV.out]; rfl, q, rfl⟩
    · go_ret
      exact ⟨.slice (some ⟨g, o + i, none⟩) (n - i) (c - i), rfl, HOD.out, by rw [HV.out]; rfl, q, rfl⟩
attribute [local go_sem] fr_opt
def TapeM.forgot (t : TapeM) (v : Value) (i : Nat) : TapeM := { t with v := v, ids := t.ids.drop i, M := (t.ids.take i).foldl dropK t.M }
def TapeM.less (t : TapeM) (k : Nat) : TapeM := { t with M := (t.ids.take k).foldl dropK t.M }
def ForgTo (w0 w : World) (tb d : Nat) (t : TapeM) (i : Nat) (e : Ending) (w' : World) : Prop :=
  e = .returned (.tuple #[]) ∧ ∃ v', TapeAt w0 w' tb d (t.forgot v' i) ∧ Chg (fun q => q ∈ t.foot tb) w w' ∧ (t.forgot v' i).foot tb = t.foot tb
theorem TapeAt.put {w0 w : World} {tb d : Nat} {t : TapeM} {i : Nat} {v' : Value} (h : TapeAt w0 w tb d (t.less i)) (ho : OwnI w w0.heap.size v' (t.ids.drop i)) (hb : v'.ownBlock = t.v.ownBlock) : TapeAt w0 (w.setCell ⟨tb, 4, none⟩ v') tb d (t.forgot v' i) ∧ Chg (fun q => q = tb) w (w.setCell ⟨tb, 4, none⟩ v') ∧ (t.forgot v' i).foot tb = t.foot tb := by
  have hf : (t.forgot v' i).foot tb = t.foot tb := by simp [TapeM.forgot, TapeM.foot, hb]
  have hf' : (t.less i).foot tb = t.foot tb := rfl
  have hc : Chg (fun q => q = tb) w (w.setCell ⟨tb, 4, none⟩ v') := Chg.setCell (S := fun q => q = tb) (Chg.refl _ _) (fun _ => rfl) _
  have hap := h.apart
  have ha := heap_setCell_same w tb 4 _ _ v' h.at_
  rw [hf'] at hap
  have hne : ∀ q ∈ t.cb :: t.mb :: t.v.ownBlock.toList, ¬ q = tb := fun q hq e => by
    subst e
    exact (List.nodup_cons.1 hap).1 hq
  refine ⟨⟨?_, World.rowIs.of_block h.tab (hc.block _ h.tab.lt (hne t.cb (by simp))), h.map.heap (hc.block _ h.map.lt (hne t.mb (by simp))), ho.chg hc (fun g hg => hne g (by rw [hb] at hg; simp [hg])), by rw [hf]; exact hap, fun q hq => ?_⟩, hc, hf⟩
  · simpa [TapeM.cells, TapeM.forgot, TapeM.less] using ha
  · rw [hf] at hq
    exact h.low q hq
theorem TapeAt.less_step {w0 w w' : World} {tb d : Nat} {t : TapeM} {k : Nat} {x : Int} (h : TapeAt w0 w tb d (t.less k)) (hk : k < t.ids.length) (hx : x = t.ids.getD k 0) (hm : MapK tK intEl w' t.mb (dropK (t.less k).M x)) (hg : w.grownBy w' (some t.mb)) : TapeAt w0 w' tb d (t.less (k + 1)) ∧ Chg (fun q => q = t.mb) w w' := by
  have hc : Chg (fun q => q = t.mb) w w' := Chg.of_grown hg (fun q hq _ => (Option.some.inj hq).symm)
  have hap := h.apart
  have hf' : (t.less k).foot tb = t.foot tb := rfl
  rw [hf'] at hap
  unfold TapeM.foot at hap
  have h1 : ¬ tb = t.mb := fun e => (List.nodup_cons.1 hap).1 (by rw [e]; simp)
  have h2 : ¬ t.cb = t.mb := fun e => (List.nodup_cons.1 (List.nodup_cons.1 hap).2).1 (by rw [e]; simp)
  have h3 : ∀ g, t.v.ownBlock = some g → ¬ g = t.mb := fun g hg e => (List.nodup_cons.1 (List.nodup_cons.1 (List.nodup_cons.1 hap).2).2).1 (by rw [← e]; simp [hg])
  have hM : (t.less (k + 1)).M = dropK (t.less k).M x := by
    show (t.ids.take (k + 1)).foldl dropK t.M = _
    rw [List.take_add_one, List.getElem?_eq_getElem hk, Option.toList_some, List.foldl_append, hx, List.getD_eq_getElem?_getD, List.getElem?_eq_getElem hk]
    rfl
  exact ⟨⟨hc.heap h.at_ h1, World.rowIs.of_block h.tab (hc.block _ h.tab.lt h2), by rw [hM]; exact hm, h.own.chg hc h3, h.apart, h.low⟩, hc⟩
set_option maxHeartbeats 1000000 in
set_option maxRecDepth 100000 in
theorem tforget_any {w0 w : World} {tb d : Nat} {t : TapeM} (h : TapeAt w0 w tb d t) (hs : t.ids.Pairwise (· ≤ ·)) (hn : t.ids.length ≤ 1000000) (hwf : ∀ k ∈ t.ids, (Lit.int .i64 k).wf = true) (a : Int) :
    Calls Tryz.prog 49 #[.pointer (some ⟨tb, 0, none⟩), .int .i64 a] w (ForgTo w0 w tb d t (lowN t.ids a)) := by
  have hF := tfrom_own h hs hn a
  obtain ⟨i, hi⟩ : ∃ i, i = lowN t.ids a := ⟨_, rfl⟩
  have hil : i ≤ t.ids.length := hi ▸ lowN_le _ _
  rw [← hi] at hF ⊢
  have HF := Lib.hid hF
  have HWF := Lib.hid hwf
  have hless : TapeAt w0 w tb d (t.less 0) := h
  obtain ⟨n, hn'⟩ : ∃ n, n = t.ids.length := ⟨_, rfl⟩
  have HN := Lib.hid hn'
  rcases own_form' h.own with ⟨h0, hv⟩ | ⟨g, o, c, hv, hc, hcell⟩
  · have hi0 : i = 0 := by rw [h0] at hil; simpa using hil
    subst hi0
    have hd : t.ids.drop 0 = [] := by rw [h0]; rfl
    have HV := Lib.hid hv
    have HL := Lib.hid hless
    have HD := Lib.hid hd
    clear h hs hF hwf hi hn' hless hv
    go_enter Tryz.func49, Tryz.ntmps49
    go_wp2_with fail
    refine HF.out.mono ?_
    rintro e w1 ⟨v', rfl, hov, hbv, q, rfl⟩
    obtain ⟨p, cr, hpv⟩ := hov.slice
    rw [HD.out, List.length_nil] at hpv
    subst hpv
    have HOV := Lib.hid hov
    have HBV := Lib.hid hbv
    have c4 : w.cell? ⟨tb, 4, none⟩ = some (.slice none 0 0) := by
      have := HL.out.cell.2.2.2.2.1
      rw [show (t.less 0).v = t.v from rfl, HV.out] at this
      exact this
    clear hov hbv h0 hd
    go_upto_region 1 with fail
    go_quiet (fail)
    have hb0 : Chg (fun q => q = t.mb) w ((w.drewN q).drewN nq) := ((Chg.refl _ _).drewN q).drewN nq
    have hl0 : TapeAt w0 ((w.drewN q).drewN nq) tb d (t.less 0) := HL.out.new (((Chg.refl _ _).drewN q).drewN nq)
    have HB0 := Lib.hid hb0
    have HL0 := Lib.hid hl0
    clear c4 hb0 hl0
    go_wp2_with fail
    go_loopw [6, 24] (fun iv kv wr => kv = .int .i64 0 ∧ TapeAt w0 wr tb d (t.less 0) ∧ Chg (fun q => q = t.mb) w wr) (fun _ kv _ => 0)
    case atStart => exact ⟨rfl, HL0.out, HB0.out⟩
    case round =>
      obtain ⟨rfl, hlk, hck⟩ := hrel
      have HLK := Lib.hid hlk
      have HCK := Lib.hid hck
      have d4 : wr.cell? ⟨tb, 4, none⟩ = some (.slice none 0 0) := by
        have := hlk.cell.2.2.2.2.1
        rw [show (t.less 0).v = t.v from rfl, HV.out] at this
        exact this
      have d4' : wr.frozen? ⟨tb, 4, none⟩ = false := hlk.cell.2.2.2.2.2.2 4
      clear hlk hck
      go_wp2_with fail
      refine bodyPost_end (P := Tryz.prog) (results_none (fn := Tryz.f49) rfl _ _ _) rfl ?_
      have hov2 : OwnI wr w0.heap.size (.slice p 0 cr) (t.ids.drop 0) := HOV.out.chg (HCK.out) (fun g' hg' e => by
        rw [HBV.out, HV.out] at hg'
        cases hg')
      obtain ⟨r1, r2, r3⟩ := HLK.out.put hov2 HBV.out
      exact ⟨rfl, _, r1, (HCK.out.wide (S' := fun q => q ∈ t.foot tb) (fun i _ e => e ▸ mem_foot_mb t tb)).trans (r2.wide (S' := fun q => q ∈ t.foot tb) (fun i _ e => e ▸ mem_foot_tb t tb)) (fun _ _ x => x), r3⟩
  · rw [← hn'] at hil hn hv hc
    have HV := Lib.hid hv
    have HL := Lib.hid hless
    clear h hs hF hwf hi hn' hless hv hcell
    go_enter Tryz.func49, Tryz.ntmps49
    go_wp2_with fail
    refine HF.out.mono ?_
    rintro e w1 ⟨v', rfl, hov, hbv, q, rfl⟩
    obtain ⟨p, cr, hpv⟩ := hov.slice
    obtain ⟨rn, hrn⟩ : ∃ rn, rn = (t.ids.drop i).length := ⟨_, rfl⟩
    have hrl : i + rn = n := by rw [hrn, List.length_drop, ← HN.out]; omega
    rw [← hrn] at hpv
    subst hpv
    have HOV := Lib.hid hov
    have HBV := Lib.hid hbv
    have c4 : w.cell? ⟨tb, 4, none⟩ = some (.slice (some ⟨g, o, none⟩) n c) := by
      have := HL.out.cell.2.2.2.2.1
      rw [show (t.less 0).v = t.v from rfl, HV.out] at this
      exact this
    clear hov hbv hrn
    go_upto_region 1 with fail
    go_quiet (fail)
    have hni : n - rn = i := by omega
    rw [hni]
    have hb0 : Chg (fun q => q = t.mb) w ((w.drewN q).drewN nq) := ((Chg.refl _ _).drewN q).drewN nq
    have hl0 : TapeAt w0 ((w.drewN q).drewN nq) tb d (t.less 0) := HL.out.new (((Chg.refl _ _).drewN q).drewN nq)
    have HB0 := Lib.hid hb0
    have HL0 := Lib.hid hl0
    clear c4 hb0 hl0
    go_wp2_with fail
    go_loopw [6, 24] (fun iv kv wr => ∃ k : Nat, k ≤ i ∧ kv = .int .i64 k ∧ TapeAt w0 wr tb d (t.less k) ∧ Chg (fun q => q = t.mb) w wr) (fun _ kv _ => i - (intOf kv).toNat)
    case atStart => exact ⟨0, Nat.zero_le _, rfl, HL0.out, HB0.out⟩
    case round =>
      obtain ⟨k, hki, rfl, hlk, hck⟩ := hrel
      have HLK := Lib.hid hlk
      have HCK := Lib.hid hck
      by_cases hlt : k < i
      · have hkn : k < t.ids.length := by rw [← HN.out]; omega
        obtain ⟨x, hx⟩ : ∃ x, x = t.ids.getD k 0 := ⟨_, rfl⟩
        have hcx : wr.cell? ⟨g, o + k, none⟩ = some (.int .i64 x) := by
          rcases hlk.own with ⟨e, _⟩ | ⟨g', o', c', e, _, _, _, _, hce, _⟩
          · rw [show (t.less k).v = t.v from rfl, HV.out] at e
            cases e
          · rw [show (t.less k).v = t.v from rfl, HV.out] at e
            cases e
            rw [hx]
            exact hce k hkn
        have hxw : (Lit.int .i64 x).wf = true := HWF.out x (by rw [hx, List.getD_eq_getElem?_getD, List.getElem?_eq_getElem hkn]; exact List.getElem_mem hkn)
        have d3 : wr.cell? ⟨tb, 3, none⟩ = some (.map (some t.mb)) := hlk.cell.2.2.2.1
        have HX := Lib.hid hx
        have HXW := Lib.hid hxw
        clear hlk hck hx hxw
        obtain ⟨w2, hrun, hm2, hg2, hs2⟩ := HLK.out.map.drop (t := 78) (k := 3) (e := 3) Tryz.underlying78 x HXW.out 0
        have hrun : (Builtin.delete_ #[78, 3] 0 #[.map (some t.mb), .int .i64 x]).run Tryz.prog wr = .ok (.tuple #[]) w2 := hrun
        obtain ⟨hl2, hc2⟩ := HLK.out.less_step hkn HX.out hm2 hg2
        have HL2 := Lib.hid hl2
        have HC2 := Lib.hid (HCK.out.trans hc2 (fun _ _ x => x))
        clear hl2 hc2 hm2 hg2 hs2
        go_wp2_with fail
        exact ⟨⟨k + 1, by omega, by go_num, HL2.out, HC2.out⟩, by simp [intOf]; omega⟩
      · have hk : k = i := by omega
        subst hk
        have d4 : wr.cell? ⟨tb, 4, none⟩ = some (.slice (some ⟨g, o, none⟩) n c) := by
          have := hlk.cell.2.2.2.2.1
          rw [show (t.less k).v = t.v from rfl, HV.out] at this
          exact this
        have d4' : wr.frozen? ⟨tb, 4, none⟩ = false := hlk.cell.2.2.2.2.2.2 4
        clear hlk hck
        go_wp2_with fail
        refine bodyPost_end (P := Tryz.prog) (results_none (fn := Tryz.f49) rfl _ _ _) rfl ?_
        have hov2 : OwnI wr w0.heap.size (.slice p rn cr) (t.ids.drop k) := HOV.out.chg (HCK.out) (fun g' hg' e => by
          have hap := HLK.out.apart
          unfold TapeM.foot at hap
          rw [HBV.out] at hg'
          exact (List.nodup_cons.1 (List.nodup_cons.1 (List.nodup_cons.1 hap).2).2).1 (by rw [show (t.less k).mb = t.mb from rfl, ← e, show (t.less k).v = t.v from rfl, hg']; simp))
        obtain ⟨r1, r2, r3⟩ := HLK.out.put hov2 HBV.out
        exact ⟨rfl, _, r1, (HCK.out.wide (S' := fun q => q ∈ t.foot tb) (fun i _ e => e ▸ mem_foot_mb t tb)).trans (r2.wide (S' := fun q => q ∈ t.foot tb) (fun i _ e => e ▸ mem_foot_tb t tb)) (fun _ _ x => x), r3⟩
theorem TapeG.foot {w0 w w' : World} {tb : Nat} {t t' : TapeM} {g : Gh} {st : St} {m : RowM} (h : TapeG w0 w tb t g st m) (hc : Chg (fun q => q ∈ t.foot tb) w w') (ha : TapeAt w0 w' tb g.d t') (hf : t'.foot tb = t.foot tb) (hr : t'.rb = t.rb) : TapeG w0 w' tb t' g st m := by
  refine ⟨?_, ha, fun q hq => by rw [hf] at hq; rw [hr]; exact h.out q hq⟩
  rw [hr]
  exact ⟨h.row.disk.chg hc (fun k hk hx => (h.out k hx).2 hk), h.row.row.chg hc (fun hx => (h.out _ hx).1 rfl), h.row.out, h.row.chg.trans hc (fun i hi x => by have := h.tape.low i x; omega), h.row.low, h.row.lowb, h.row.tab0⟩
def DropTo (w0 w : World) (tb : Nat) (t : TapeM) (g : Gh) (st : St) (m : RowM) (n i0 j : Nat) (all : List UInt8) (e : Ending) (w' : World) : Prop :=
  e = .returned (.tuple #[.int .i64 ((1024 * (i0 + 1) : Nat) : Int), .int .i64 0]) ∧ ∃ v' g' m' st', TapeG w0 w' tb (t.forgot v' (lowN t.ids ((1024 * (i0 + 1) : Nat) : Int))) g' st' m' ∧ g'.d = g.d ∧ m'.head = m.head ∧ m'.synced = max m.synced ((1024 * (i0 + 1) : Nat) : Int) ∧ RowC n m' st' 1024 (i0 + 1) j (all.drop 1024) ∧ st'.cap = st.cap ∧
    Chg (fun q => q = t.rb ∨ q ∈ g.fp ∨ q ∈ t.foot tb) w w' ∧ (∀ q ∈ g'.fp, q ∈ g.fp ∨ w.heap.size ≤ q) ∧ Others m.head st st' ∧ (t.forgot v' (lowN t.ids ((1024 * (i0 + 1) : Nat) : Int))).foot tb = t.foot tb
set_option maxHeartbeats 1000000 in
set_option maxRecDepth 100000 in
theorem tdrop_any {w0 w : World} {tb : Nat} {t : TapeM} {g : Gh} {st : St} {m : RowM} {n i0 j : Nat} {all : List UInt8} (h : TapeG w0 w tb t g st m) (hk : RowC n m st 1024 i0 j all) (hn : n ≤ 1048576) (hij : i0 + 1 < j) (hs : t.ids.Pairwise (· ≤ ·)) (hl : t.ids.length ≤ 1000000) (hwf : ∀ k ∈ t.ids, (Lit.int .i64 k).wf = true) :
    Calls Tryz.prog 17 #[.pointer (some ⟨tb, 0, none⟩)] w (DropTo w0 w tb t g st m n i0 j all) := by
  have HR := Lib.hid (trow_any h.tape)
  have HD := Lib.hid (c_drop h.row hk hn hij)
  have HT := Lib.hid h
  obtain ⟨B, hB⟩ : ∃ B : Nat, B = 1024 * (i0 + 1) := ⟨_, rfl⟩
  have HF : Hid (∀ w1 g1 st1 m1, TapeG w0 w1 tb t g1 st1 m1 → Calls Tryz.prog 49 #[.pointer (some ⟨tb, 0, none⟩), .int .i64 (B : Int)] w1 (ForgTo w0 w1 tb g1.d t (lowN t.ids (B : Int)))) := Lib.hid (fun w1 g1 st1 m1 h1 => tforget_any h1.tape hs hl hwf _)
  rw [← hB] at HD
  have HBB := Lib.hid hB
  clear h hk hs hwf hB
  go_enter Tryz.func17, Tryz.ntmps17
  go_wp2_with fail
  refine HR.out.mono ?_
  rintro e w1 ⟨rfl, rfl⟩
  go_wp2_with fail
  refine HD.out.mono ?_
  rintro e w2 ⟨rfl, g1, m1, st1, p1, p2, p3, p4, p5, p6, p7⟩
  have hT2 := HT.out.step p1 p2
  have HT2 := Lib.hid hT2
  have HP := Lib.hid (And.intro p2 (And.intro p3 (And.intro p4 (And.intro p5 (And.intro p6 p7)))))
  clear p1 p2 p3 p4 p5 p6 p7 hT2
  go_wp2_with fail
  refine (HF.out w2 g1 st1 m1 HT2.out).mono ?_
  rintro e w3 ⟨rfl, v', hat, hch, hft⟩
  have HA := Lib.hid (And.intro hat (And.intro hch hft))
  clear hat hch hft
  go_wp2_with fail
  refine bodyPost_ret (v := .tuple #[.int .i64 (B : Int), .int .i64 0]) (by simp [results, Tryz.results17, go_sem]) rfl ?_
  obtain ⟨p2, p3, p4, p5, p6, p7⟩ := HP.out
  obtain ⟨hat, hch, hft⟩ := HA.out
  have hB := HBB.out
  refine ⟨by rw [hB], v', g1, m1, st1, ?_, p2.d, p4, by rw [p5, hB], p6, p7, ?_, p2.fp, p3, by rw [← hB]; exact hft⟩
  · rw [← hB]
    exact HT2.out.foot hch hat hft rfl
  · exact (p2.chg.wide (S' := fun q => q = t.rb ∨ q ∈ g.fp ∨ q ∈ t.foot tb) (fun i _ x => x.elim .inl (fun y => .inr (.inl y)))).trans hch (fun i _ x => .inr (.inr x))
end Go.Proofs.YtccfkhlcnpfkiaaGreatDoor
namespace Go.Proofs.YtccfkhlcnpfkiaaGreatDoor
open Go.RowKit Go.Deep
def ItemOk (p : Nat) (M : MsgM) (bs : List UInt8) : Prop := putO M = some bs ∧ (p % 1024 + bs.length = 1024 ∨ p % 1024 + bs.length + 3 ≤ 1024)
def LaidAt : Nat → List (MsgM × List UInt8) → Prop
  | _, [] => True
  | p, x :: l => ItemOk p x.1 x.2 ∧ LaidAt (p + x.2.length) l
def bytesI (l : List (MsgM × List UInt8)) : List UInt8 := l.flatMap (·.2)
def notesI : Nat → List (MsgM × List UInt8) → List (Int × Int × Int)
  | _, [] => []
  | p, x :: l => (if x.1.kind == 0 then [] else [((p : Int), (x.2.length : Int), x.1.born)]) ++ notesI (p + x.2.length) l
theorem bytesI_cons (x : MsgM × List UInt8) (l : List (MsgM × List UInt8)) : bytesI (x :: l) = x.2 ++ bytesI l := by simp [bytesI]
theorem bytesI_app (l l' : List (MsgM × List UInt8)) : bytesI (l ++ l') = bytesI l ++ bytesI l' := by simp [bytesI]
theorem laidAt_app {p : Nat} {l l' : List (MsgM × List UInt8)} : LaidAt p (l ++ l') ↔ LaidAt p l ∧ LaidAt (p + (bytesI l).length) l' := by
  induction l generalizing p with
  | nil => simp [LaidAt, bytesI]
  | cons x l ih =>
    show ItemOk p x.1 x.2 ∧ LaidAt (p + x.2.length) (l ++ l') ↔ (ItemOk p x.1 x.2 ∧ LaidAt (p + x.2.length) l) ∧ _
    rw [ih, bytesI_cons, List.length_append, Nat.add_assoc, and_assoc]
theorem notesI_app (p : Nat) (l l' : List (MsgM × List UInt8)) : notesI p (l ++ l') = notesI p l ++ notesI (p + (bytesI l).length) l' := by
  induction l generalizing p with
  | nil => simp [notesI, bytesI]
  | cons x l ih =>
    show _ ++ notesI (p + x.2.length) (l ++ l') = _
    rw [ih, bytesI_cons, List.length_append, ← Nat.add_assoc, ← List.append_assoc]
    rfl
theorem laid_len {p : Nat} {x : MsgM × List UInt8} {l : List (MsgM × List UInt8)} (h : LaidAt p (x :: l)) : 3 ≤ x.2.length := by
  have := (put_get h.1.1 []).2.1
  exact this
theorem laid_none {p : Nat} {l : List (MsgM × List UInt8)} (h : LaidAt p l) (h0 : (bytesI l).length = 0) : l = [] := by
  cases l with
  | nil => rfl
  | cons x l =>
    have := laid_len h
    rw [bytesI_cons, List.length_append] at h0
    omega
theorem extract_bytes (s : ByteArray) (a : Nat) : s.extract a s.size = ⟨(s.data.toList.drop a).toArray⟩ := by
  apply ByteArray.ext
  rw [ByteArray.data_extract]
  apply Array.ext'
  rw [Array.toList_extract, List.extract_eq_take_drop]
  show List.take (s.data.size - a) _ = _
  rw [List.take_of_length_le (by simp)]
theorem take_laid (place : Nat) (s : ByteArray) : ∀ (l : List (MsgM × List UInt8)) (f q a : Nat), LaidAt q l → q % 1024 = a % 1024 → a ≤ 1024 → a ≤ s.size → s.data.toList.drop a = (bytesI l).take (1024 - a) → s.size < a + f →
    ∃ l1 l2, l = l1 ++ l2 ∧ (takeF f s a).2 = s.size ∧ notesT place (takeF f s a).1 = notesI (place + a) l1 ∧ a + (bytesI l1).length = s.size
  | [], f, q, a, _, _, _, ha, hb, _ => by
    have hs : s.size ≤ a := by
      have := congrArg List.length hb
      simp [bytesI] at this
      have h2 : s.data.size = s.size := rfl
      omega
    refine ⟨[], [], rfl, ?_, ?_, ?_⟩
    · rw [take_stop (.inl (by omega))]; show a = _; omega
    · rw [take_stop (.inl (by omega))]; rfl
    · simp [bytesI]; omega
  | x :: l, f, q, a, hl, hq, h1024, ha, hb, hf => by
    have hx3 := laid_len hl
    have hlen := congrArg List.length hb
    have h2 : s.data.size = s.size := rfl
    rw [List.length_drop, List.length_take, Array.length_toList, h2, bytesI_cons, List.length_append] at hlen
    by_cases hlt : a < 1024
    · have hqa : q % 1024 = a := by omega
      have hit := hl.1.2
      obtain ⟨f', rfl⟩ : ∃ f', f = f' + 1 := ⟨f - 1, by omega⟩
      have hsa : a < s.size := by omega
      have hdr : s.data.toList.drop a = x.2 ++ (bytesI l).take (1024 - (a + x.2.length)) := by
        rw [hb, bytesI_cons, List.take_append, List.take_of_length_le (by omega)]
        congr 2
        omega
      have hg := (put_get hl.1.1 ((bytesI l).take (1024 - (a + x.2.length)))).1
      rw [← hdr, ← extract_bytes] at hg
      have hst : stepT s a = some (x.1, x.2.length) := by
        unfold stepT
        rw [hg]
        rw [if_pos ⟨rfl, by unfold mayB; rcases hit with y | y <;> simp <;> omega⟩]
        rfl
      have hdr2 : s.data.toList.drop (a + x.2.length) = (bytesI l).take (1024 - (a + x.2.length)) := by
        rw [← List.drop_drop, hdr, List.drop_left]
      obtain ⟨l1, l2, e1, e2, e3, e4⟩ := take_laid place s l f' (q + x.2.length) (a + x.2.length) hl.2 (by omega) (by omega) (by omega) hdr2 (by omega)
      rw [take_step hsa hst]
      refine ⟨x :: l1, l2, by rw [e1]; rfl, e2, ?_, by rw [bytesI_cons, List.length_append]; omega⟩
      show notesT place ((a, x.1, x.2.length) :: (takeF f' s (a + x.2.length)).1) = _ ++ notesI (place + a + x.2.length) l1
      rw [show place + a + x.2.length = place + (a + x.2.length) from by omega, ← e3]
      unfold notesT
      rw [List.filter_cons]
      by_cases hk : (x.1.kind == 0) = true
      · simp [hk]
      · simp [hk]
    · refine ⟨[], x :: l, rfl, ?_, ?_, ?_⟩
      · rw [take_stop (.inl (by omega))]; show a = _; omega
      · rw [take_stop (.inl (by omega))]; rfl
      · simp [bytesI]; omega
theorem take_seg {p : Nat} {all : List UInt8} {l : List (MsgM × List UInt8)} (place : Nat) (hl : LaidAt p l) (hp : p % 1024 = 0) (hb : all.drop p = bytesI l) :
    ∃ l1 l2, l = l1 ++ l2 ∧ (takeF ((segB all p).size + 1) (segB all p) 0).2 = (segB all p).size ∧ notesT place (takeF ((segB all p).size + 1) (segB all p) 0).1 = notesI place l1 ∧ (bytesI l1).length = (segB all p).size := by
  obtain ⟨l1, l2, e1, e2, e3, e4⟩ := take_laid place (segB all p) l ((segB all p).size + 1) p 0 hl (by omega) (by omega) (Nat.zero_le _) (by rw [List.drop_zero, ← hb]; rfl) (by omega)
  exact ⟨l1, l2, e1, e2, e3, by omega⟩
theorem gather_laid {i0 : Nat} {all : List UInt8} : ∀ (f p : Nat) (l : List (MsgM × List UInt8)), LaidAt p l → (p < all.length → p % 1024 = 0) → all.drop p = bytesI l → p ≤ all.length → all.length < p + f →
    tgathF i0 all f p = (notesI (1024 * i0 + p) l, all.length)
  | 0, p, l, _, _, _, _, hf => by omega
  | f + 1, p, l, hl, hp, hb, hpl, hf => by
    have hlen := congrArg List.length hb
    rw [List.length_drop] at hlen
    by_cases hlt : p < all.length
    · obtain ⟨l1, l2, e1, e2, e3, e4⟩ := take_seg (1024 * i0 + p) hl (hp hlt) hb
      have hsz := segB_size all p
      subst e1
      rw [tgath_some hlt, e2, if_neg (by omega), e3]
      obtain ⟨hl1, hl2⟩ := laidAt_app.1 hl
      have hb2 : all.drop (p + (segB all p).size) = bytesI l2 := by
        rw [← List.drop_drop, hb, bytesI_app, ← e4, List.drop_left]
      rw [e4] at hl2
      have ih := gather_laid (i0 := i0) f (p + (segB all p).size) l2 hl2 (fun hq => by have := hp hlt; omega) hb2 (by omega) (by omega)
      rw [ih, notesI_app, e4]
      dsimp only
      rw [Nat.add_assoc]
    · have h0 : l = [] := laid_none hl (by omega)
      subst h0
      rw [tgath_stop (by omega)]
      show ([], p) = ([], all.length)
      rw [show p = all.length from by omega]
theorem seg_split {all : List UInt8} {l : List (MsgM × List UInt8)} (hl : LaidAt 0 l) (hb : all = bytesI l) (hlen : 1024 ≤ all.length) : ∃ l1 l2, l = l1 ++ l2 ∧ (bytesI l1).length = 1024 ∧ all.drop 1024 = bytesI l2 ∧ LaidAt 0 l1 ∧ LaidAt 1024 l2 := by
  obtain ⟨l1, l2, e1, e2, e3, e4⟩ := take_seg (all := all) 0 hl rfl (by rw [List.drop_zero]; exact hb)
  have hsz := segB_size all 0
  have h4 : (bytesI l1).length = 1024 := by omega
  subst e1
  obtain ⟨hl1, hl2⟩ := laidAt_app.1 hl
  rw [h4, Nat.zero_add] at hl2
  exact ⟨l1, l2, rfl, h4, by rw [hb, bytesI_app, ← h4, List.drop_left], hl1, hl2⟩
theorem laidAt_mod {p q : Nat} (h : p % 1024 = q % 1024) : ∀ {l : List (MsgM × List UInt8)}, LaidAt p l → LaidAt q l
  | [], _ => trivial
  | x :: l, hl => by
    have h3 := hl.1
    refine ⟨⟨h3.1, by rw [← h]; exact h3.2⟩, ?_⟩
    exact laidAt_mod (p := p + x.2.length) (q := q + x.2.length) (by omega) hl.2
theorem notesI_ge {p : Nat} {l : List (MsgM × List UInt8)} : ∀ x ∈ notesI p l, (p : Int) ≤ x.1 := by
  induction l generalizing p with
  | nil => intro x hx; cases hx
  | cons y l ih =>
    intro x hx
    rcases List.mem_append.1 hx with h | h
    · split at h
      · cases h
      · rw [List.mem_singleton] at h
        rw [h]
        exact Int.le_refl _
    · have := ih x h
      omega
theorem notesI_lt {p : Nat} {l : List (MsgM × List UInt8)} (hl : LaidAt p l) : ∀ x ∈ notesI p l, x.1 + x.2.1 ≤ ((p + (bytesI l).length : Nat) : Int) ∧ 3 ≤ x.2.1 := by
  induction l generalizing p with
  | nil => intro x hx; cases hx
  | cons y l ih =>
    intro x hx
    have h3 := laid_len hl
    rw [bytesI_cons, List.length_append]
    rcases List.mem_append.1 hx with h | h
    · split at h
      · cases h
      · rw [List.mem_singleton] at h
        rw [h]
        dsimp only
        omega
    · have := ih hl.2 x h
      omega
theorem notesI_sorted {p : Nat} {l : List (MsgM × List UInt8)} (hl : LaidAt p l) : ((notesI p l).map (·.1)).Pairwise (· < ·) := by
  induction l generalizing p with
  | nil => exact List.Pairwise.nil
  | cons y l ih =>
    have h3 := laid_len hl
    show ((_ ++ notesI (p + y.2.length) l).map (·.1)).Pairwise (· < ·)
    rw [List.map_append, List.pairwise_append]
    refine ⟨?_, ih hl.2, fun a ha b hb => ?_⟩
    · split
      · exact List.Pairwise.nil
      · exact List.pairwise_singleton _ _
    · obtain ⟨x, hx, rfl⟩ := List.mem_map.1 hb
      have := notesI_ge x hx
      split at ha
      · cases ha
      · rw [List.map_cons, List.map_nil, List.mem_singleton] at ha
        omega
theorem low_split {p : Nat} {l1 l2 : List (MsgM × List UInt8)} (h1 : LaidAt p l1) : lowN ((notesI p (l1 ++ l2)).map (·.1)) ((p + (bytesI l1).length : Nat) : Int) = (notesI p l1).length := by
  unfold lowN
  rw [notesI_app, List.map_append, List.countP_append]
  have a1 : List.countP (fun x : Int => decide (x < ((p + (bytesI l1).length : Nat) : Int))) ((notesI p l1).map (·.1)) = ((notesI p l1).map (·.1)).length := List.countP_eq_length.2 fun x hx => by
    obtain ⟨y, hy, rfl⟩ := List.mem_map.1 hx
    have := notesI_lt h1 y hy
    simp
    omega
  have a2 : List.countP (fun x : Int => decide (x < ((p + (bytesI l1).length : Nat) : Int))) ((notesI (p + (bytesI l1).length) l2).map (·.1)) = 0 := List.countP_eq_zero.2 fun x hx => by
    obtain ⟨y, hy, rfl⟩ := List.mem_map.1 hx
    have := notesI_ge y hy
    simp
    omega
  rw [a1, a2, List.length_map, Nat.add_zero]
theorem getK_drop (M : List (Int × Int)) (a k : Int) : getK (dropK M a) k = if k = a then none else getK M k := by
  unfold getK dropK
  rw [List.find?_filter]
  by_cases h : k = a
  · rw [if_pos h]
    rw [List.find?_eq_none.2 (fun p _ => by simp; intro h1 h2; exact h1 (h2.trans h))]
    rfl
  · rw [if_neg h]
    congr 1
    congr 1
    funext p
    by_cases hp : p.1 = k
    · simp [hp, h]
    · simp [hp]
theorem getK_put (M : List (Int × Int)) (a b k : Int) : getK (dropK M a ++ [(a, b)]) k = if k = a then some b else getK M k := by
  have hd := getK_drop M a k
  unfold getK at hd ⊢
  rw [List.find?_append, Option.map_or, hd]
  by_cases h : k = a
  · rw [if_pos h, if_pos h]; simp [h]
  · rw [if_neg h, if_neg h]
    have : ¬ a = k := fun e => h e.symm
    simp [this]
structure TapeN (t : TapeM) (N : List (Int × Int × Int)) : Prop where
  ids : t.ids = N.map (·.1)
  siz : ∀ x ∈ N, getK t.M x.1 = some x.2.1
  non : ∀ k, (∀ x ∈ N, x.1 ≠ k) → getK t.M k = none
  last : ∀ x, N.getLast? = some x → t.last = x.2.2
  ml : t.M.length ≤ N.length
theorem tapeN_new (rb cb mb : Nat) : TapeN (tape0 rb cb mb) [] := ⟨rfl, fun x h => (by cases h), fun k _ => rfl, fun x h => (by cases h), Nat.le_refl _⟩
theorem TapeN.noted {t : TapeM} {N : List (Int × Int × Int)} (h : TapeN t N) (v : Value) (id size born : Int) (hn : ∀ x ∈ N, x.1 ≠ id) : TapeN (t.noted v id size born) (N ++ [(id, size, born)]) := by
  refine ⟨by simp [TapeM.noted, h.ids], fun x hx => ?_, fun k hk => ?_, fun x hx => ?_, ?_⟩
  · show getK (dropK t.M id ++ [(id, size)]) x.1 = _
    rw [getK_put]
    rcases List.mem_append.1 hx with h1 | h1
    · rw [if_neg (hn x h1)]
      exact h.siz x h1
    · rw [List.mem_singleton] at h1
      rw [h1, if_pos rfl]
  · show getK (dropK t.M id ++ [(id, size)]) k = _
    rw [getK_put, if_neg (fun e => hk (id, size, born) (by simp) e.symm)]
    exact h.non k (fun x hx => hk x (List.mem_append_left _ hx))
  · rw [List.getLast?_append] at hx
    simp at hx
    rw [← hx]
    rfl
  · show (dropK t.M id ++ [(id, size)]).length ≤ _
    rw [List.length_append, List.length_append]
    have : (dropK t.M id).length ≤ t.M.length := List.length_filter_le ..
    have := h.ml
    simp
    omega
theorem TapeN.same {t t' : TapeM} {N : List (Int × Int × Int)} (h : TapeN t N) (h1 : t'.ids = t.ids) (h2 : t'.M = t.M) (h3 : t'.last = t.last) : TapeN t' N := ⟨by rw [h1]; exact h.ids, by rw [h2]; exact h.siz, by rw [h2]; exact h.non, by rw [h3]; exact h.last, by rw [h2]; exact h.ml⟩
theorem TapeN.noteL {N : List (Int × Int × Int)} : ∀ (L : List (Int × Int × Int)) {t : TapeM} {N : List (Int × Int × Int)}, TapeN t N → ∀ v, ((N ++ L).map (·.1)).Pairwise (· ≠ ·) → TapeN (t.noteL v L) (N ++ L)
  | [], t, N, h, v, _ => by
    rw [List.append_nil]
    exact h.same (by simp [TapeM.noteL]) rfl rfl
  | x :: L, t, N, h, v, hd => by
    have e1 : (t.noteL v []).noted v x.1 x.2.1 x.2.2 = t.noteL v [x] := noteL_snoc t v v [] x.1 x.2.1 x.2.2
    have h1 : TapeN (t.noteL v []) N := h.same (by simp [TapeM.noteL]) rfl rfl
    have h2 := h1.noted v x.1 x.2.1 x.2.2 (fun y hy => by
      rw [List.map_append, List.pairwise_append] at hd
      exact hd.2.2 y.1 (List.mem_map_of_mem (f := (·.1)) hy) x.1 (by simp))
    rw [e1] at h2
    have h3 := TapeN.noteL (N := []) L h2 v (by rw [List.append_assoc]; exact hd)
    rw [noteL_app, List.append_assoc] at h3
    exact h3
theorem foldl_dropK (l : List Int) : ∀ (M : List (Int × Int)) (k : Int), getK (l.foldl dropK M) k = if k ∈ l then none else getK M k := by
  induction l with
  | nil => intro M k; simp
  | cons a l ih =>
    intro M k
    rw [List.foldl_cons, ih, getK_drop]
    by_cases h1 : k ∈ l
    · rw [if_pos h1, if_pos (List.mem_cons_of_mem _ h1)]
    · rw [if_neg h1]
      by_cases h2 : k = a
      · rw [if_pos h2, if_pos (by rw [h2]; exact List.mem_cons_self ..)]
      · rw [if_neg h2, if_neg (fun e => (List.mem_cons.1 e).elim h2 h1)]
theorem foldl_dropK_len (l : List Int) : ∀ (M : List (Int × Int)), (∀ a ∈ l, (getK M a).isSome = true) → l.Nodup → (l.foldl dropK M).length + l.length ≤ M.length := by
  induction l with
  | nil => intro M _ _; simp
  | cons a l ih =>
    intro M h hd
    rw [List.foldl_cons]
    have hd' := List.nodup_cons.1 hd
    have h1 := ih (dropK M a) (fun b hb => by
      rw [getK_drop, if_neg (fun e => hd'.1 (by rw [← e]; exact hb))]
      exact h b (List.mem_cons_of_mem _ hb)) hd'.2
    have h2 : (dropK M a).length + 1 ≤ M.length := by
      obtain ⟨b, hb⟩ := Option.isSome_iff_exists.1 (h a (List.mem_cons_self ..))
      have hm := getK_mem hb
      unfold dropK
      have := List.length_filter_lt_length_iff_exists (l := M) (p := fun p => !decide (p.1 = a))
      have := this.2 ⟨_, hm, by simp⟩
      omega
    rw [List.length_cons]
    omega
theorem TapeN.forgot {t : TapeM} {N1 N2 : List (Int × Int × Int)} (h : TapeN t (N1 ++ N2)) (v : Value) (hd : ((N1 ++ N2).map (·.1)).Pairwise (· ≠ ·)) : TapeN (t.forgot v N1.length) N2 := by
  have hi : t.ids.take N1.length = N1.map (·.1) := by rw [h.ids, List.map_append, List.take_left' (by simp)]
  rw [List.map_append, List.pairwise_append] at hd
  refine ⟨?_, fun x hx => ?_, fun k hk => ?_, fun x hx => ?_, ?_⟩
  · show t.ids.drop N1.length = _
    rw [h.ids, List.map_append, List.drop_left' (by simp)]
  · show getK ((t.ids.take N1.length).foldl dropK t.M) x.1 = _
    rw [foldl_dropK, hi, if_neg (fun e => hd.2.2 x.1 e x.1 (List.mem_map_of_mem (f := (·.1)) hx) rfl)]
    exact h.siz x (List.mem_append_right _ hx)
  · show getK ((t.ids.take N1.length).foldl dropK t.M) k = _
    rw [foldl_dropK, hi]
    split
    · rfl
    · rename_i hne
      exact h.non k (fun x hx e => by
        rcases List.mem_append.1 hx with h1 | h1
        · exact hne (by rw [← e]; exact List.mem_map_of_mem (f := (·.1)) h1)
        · exact hk x h1 e)
  · exact h.last x (by rw [List.getLast?_append, hx]; rfl)
  · have h1 := foldl_dropK_len (t.ids.take N1.length) t.M (by
      rw [hi]
      intro a ha
      obtain ⟨x, hx, rfl⟩ := List.mem_map.1 ha
      rw [h.siz x (List.mem_append_left _ hx)]
      rfl) (by rw [hi]; exact hd.1)
    rw [hi, List.length_map] at h1
    have h2 := h.ml
    rw [List.length_append] at h2
    show ((t.ids.take N1.length).foldl dropK t.M).length ≤ _
    rw [hi]
    omega
structure TapeI (w0 w : World) (tb : Nat) (t : TapeM) (g : Gh) (st : St) (m : RowM) (n i0 j : Nat) (l : List (MsgM × List UInt8)) : Prop where
  tg : TapeG w0 w tb t g st m
  rc : RowC n m st 1024 i0 j (bytesI l)
  hd : m.head = tH
  la : LaidAt 0 l
  tn : TapeN t (notesI (1024 * i0) l)
theorem TapeI.new {w0 w w' : World} {tb : Nat} {t : TapeM} {g : Gh} {st : St} {m : RowM} {n i0 j : Nat} {l : List (MsgM × List UInt8)} (h : TapeI w0 w tb t g st m n i0 j l) (hc : Chg (fun _ => False) w w') : TapeI w0 w' tb t g st m n i0 j l := { h with tg := h.tg.new hc }
theorem TapeI.more {w0 w : World} {tb : Nat} {t : TapeM} {g : Gh} {st : St} {m : RowM} {n n' i0 j : Nat} {l : List (MsgM × List UInt8)} (h : TapeI w0 w tb t g st m n i0 j l) (hn : n ≤ n') : TapeI w0 w tb t g st m n' i0 j l := { h with rc := h.rc.more hn }
theorem ne_of_lt {l : List Int} (h : l.Pairwise (· < ·)) : l.Pairwise (· ≠ ·) := h.imp (fun h => Int.ne_of_lt h)
theorem TapeI.la' {w0 w : World} {tb : Nat} {t : TapeM} {g : Gh} {st : St} {m : RowM} {n i0 j : Nat} {l : List (MsgM × List UInt8)} (h : TapeI w0 w tb t g st m n i0 j l) : LaidAt (1024 * i0) l := laidAt_mod (p := 0) (q := 1024 * i0) (by omega) h.la
theorem TapeI.sorted {w0 w : World} {tb : Nat} {t : TapeM} {g : Gh} {st : St} {m : RowM} {n i0 j : Nat} {l : List (MsgM × List UInt8)} (h : TapeI w0 w tb t g st m n i0 j l) : t.ids.Pairwise (· < ·) := by
  rw [h.tn.ids]
  exact notesI_sorted h.la'
def TOpI (w0 w : World) (g : Gh) (st : St) (n i0 j : Nat) (l : List (MsgM × List UInt8)) (e : Ending) (w' : World) : Prop :=
  ∃ tb t g' m' st' j', e = .returned (.tuple #[.pointer (some ⟨tb, 0, none⟩), .int .i64 0]) ∧ w.heap.size ≤ tb ∧ TapeI w0 w' tb t g' st' m' n i0 j' l ∧ g'.d = g.d ∧ m'.synced = ((1024 * i0 + (bytesI l).length : Nat) : Int) ∧ (i0 < j → i0 < j') ∧ (i0 = j → i0 = j') ∧ st'.cap = st.cap ∧ Chg (fun q => q ∈ g.fp) w w' ∧ Others tH st st' ∧ (∀ q ∈ t.foot tb, w.heap.size ≤ q) ∧ w.heap.size ≤ t.rb ∧ ∀ q ∈ g'.fp, q ∈ g.fp ∨ w.heap.size ≤ q
theorem topen_laid {w0 w : World} {d : Nat} {g : Gh} {st : St} {m : RowM} {n i0 j : Nat} {l : List (MsgM × List UInt8)} (hd : DiskG w0 w d g st) (ht : Tab10 w0) (hk : RowC n m st 1024 i0 j (bytesI l)) (hn : n ≤ 1000) (hmh : m.head = tH) (hl : LaidAt 0 l) (hal : 1024 * i0 + (bytesI l).length ≤ 100000000) (hal2 : (bytesI l).length ≤ 200000) :
    Calls Tryz.prog 8 #[.pointer (some ⟨d, 0, none⟩)] w (TOpI w0 w g st n i0 j l) := by
  have hG := gather_laid (i0 := i0) (all := bytesI l) ((bytesI l).length + 1) 0 l hl (fun _ => rfl) rfl (Nat.zero_le _) (by omega)
  refine (topen_any hd ht hk hn hmh hal hal2).mono ?_
  rintro e w' ⟨tb, rb, cb, mb, v', g', m', st', j', h1, h2, h3, h4, h5, h6, h7, h8, h9, h10, h11, h12, h13, h14, h15⟩
  rw [hG] at h3 h6 h9 h13
  dsimp only at h3 h6 h9 h13
  rw [List.take_length] at h6 h9
  rw [Nat.add_zero] at h3 h13
  have hla : LaidAt (1024 * i0) l := laidAt_mod (p := 0) (q := 1024 * i0) (by omega) hl
  refine ⟨tb, _, g', m', st', j', h1, h2, ⟨h3, h9, h5, hl, ?_⟩, h4, h6, h7, h8, h10, h11, h12, h13, h14, h15⟩
  have := TapeN.noteL (N := []) (notesI (1024 * i0) l) (tapeN_new rb cb mb) v' (by rw [List.nil_append]; exact ne_of_lt (notesI_sorted hla))
  rw [List.nil_append] at this
  exact this
def itemsA (r : Nat) (M : MsgM) (bs : List UInt8) : List (MsgM × List UInt8) := (if tfill r bs.length = [] then [] else [(fillM r, tfill r bs.length)]) ++ [(M, bs)]
theorem itemsA_bytes (r : Nat) (M : MsgM) (bs : List UInt8) : bytesI (itemsA r M bs) = tfill r bs.length ++ bs := by
  unfold itemsA
  split
  · rename_i h; rw [h]; simp [bytesI]
  · simp [bytesI]
theorem itemsA_laid {i0 : Nat} {all : List UInt8} {M : MsgM} {bs : List UInt8} (hp : putO M = some bs) (hl : bs.length ≤ 327) (hok : all.length % 1024 ≤ 1021) : LaidAt all.length (itemsA (roomT i0 all) M bs) ∧ notesI (1024 * i0 + all.length) (itemsA (roomT i0 all) M bs) = if M.kind == 0 then [] else [(((1024 * i0 + all.length + (tfill (roomT i0 all) bs.length).length : Nat) : Int), (bs.length : Int), M.born)] := by
  have hr : roomT i0 all = 1024 - all.length % 1024 := by unfold roomT; omega
  unfold itemsA
  by_cases h1 : roomT i0 all = bs.length ∨ bs.length + 3 ≤ roomT i0 all
  · have ht : tfill (roomT i0 all) bs.length = [] := by unfold tfill; rw [if_pos h1]
    rw [ht, if_pos rfl]
    refine ⟨⟨⟨hp, ?_⟩, trivial⟩, ?_⟩
    · dsimp only
      omega
    · show _ ++ [] = _
      rw [List.append_nil]
      simp
  · have h3 : 3 ≤ roomT i0 all := by omega
    have h4 : roomT i0 all ≤ 1024 := by omega
    have ht : tfill (roomT i0 all) bs.length = fillB (roomT i0 all) := by unfold tfill; rw [if_neg h1, if_pos h3]
    have hfl := fillB_length (roomT i0 all) h3
    have hne : ¬ fillB (roomT i0 all) = [] := fun e => by rw [e] at hfl; simp at hfl; omega
    rw [ht, if_neg hne]
    refine ⟨⟨⟨putO_fill _ h3 h4, ?_⟩, ⟨hp, ?_⟩, trivial⟩, ?_⟩
    · dsimp only
      omega
    · dsimp only
      omega
    · show (if (fillM (roomT i0 all)).kind == 0 then [] else _) ++ (_ ++ []) = _
      rw [show ((fillM (roomT i0 all)).kind == 0) = true from rfl, if_pos rfl, List.nil_append, List.append_nil]
theorem TapeI.app {w0 w w' : World} {tb : Nat} {t : TapeM} {g : Gh} {st : St} {m : RowM} {n i0 j : Nat} {l : List (MsgM × List UInt8)} (h : TapeI w0 w tb t g st m n i0 j l) (hok : (bytesI l).length % 1024 ≤ 1021) {M : MsgM} {bs : List UInt8} (hk : M.kind ≠ 0) (hp : putO M = some bs)
    {F S : ByteArray} (hF : F = ⟨(tfill (roomT i0 (bytesI l)) bs.length).toArray⟩) (hS : S = ⟨bs.toArray⟩)
    (ha : TAppTo w0 w tb t g st m (n + 4) i0 (bytesI l) (F.data.toList ++ S.data.toList) ((1024 * i0 + (bytesI l).length + F.size : Nat) : Int) S.size M.born w') :
    ∃ t' g' m' st' j', TapeI w0 w' tb t' g' st' m' (n + 4) i0 j' (l ++ itemsA (roomT i0 (bytesI l)) M bs) ∧ g'.d = g.d ∧ m'.synced = m.synced ∧ st'.size = st.size + F.size + S.size ∧ st'.cap = st.cap ∧ Chg (fun q => q ∈ t.foot tb ∨ q = t.rb ∨ q ∈ g.fp) w w' ∧ (∀ q ∈ g'.fp, q ∈ g.fp ∨ w.heap.size ≤ q) ∧ t'.rb = t.rb ∧ t'.ids = t.ids ++ [((1024 * i0 + (bytesI l).length + F.size : Nat) : Int)] ∧ ∀ q ∈ t'.foot tb, q ∈ t.foot tb ∨ w.heap.size ≤ q := by
  obtain ⟨g', m', st', v', j', h1, h2, h3, h4, h5, h6, h7, h8, h9, h10, h11⟩ := ha
  obtain ⟨_, l327⟩ := putO_len hk hp
  obtain ⟨i1, i2⟩ := itemsA_laid (i0 := i0) hp l327 hok
  have hb : bytesI (l ++ itemsA (roomT i0 (bytesI l)) M bs) = bytesI l ++ (F.data.toList ++ S.data.toList) := by
    rw [bytesI_app, itemsA_bytes, hF, hS]
  have hFs : F.size = (tfill (roomT i0 (bytesI l)) bs.length).length := by rw [hF, sizeL]
  have hSs : S.size = bs.length := by rw [hS, sizeL]
  have hla := h.la'
  have hall : LaidAt 0 (l ++ itemsA (roomT i0 (bytesI l)) M bs) := laidAt_app.2 ⟨h.la, by rw [Nat.zero_add]; exact i1⟩
  refine ⟨_, g', m', st', j', ⟨h1, by rw [hb]; exact h5, by rw [h3]; exact h.hd, hall, ?_⟩, h2, h4, ?_, h7, h9, h10, rfl, rfl, h11⟩
  · rw [notesI_app, i2, if_neg (by simpa using hk), ← hFs, ← hSs]
    refine h.tn.noted v' _ _ _ (fun x hx => ?_)
    have := notesI_lt hla x hx
    omega
  · rw [h6, List.length_append, size_toList, size_toList]
    omega
theorem TapeI.drop {w0 w w' : World} {tb : Nat} {t : TapeM} {g : Gh} {st : St} {m : RowM} {n i0 j : Nat} {l : List (MsgM × List UInt8)} {e : Ending} (h : TapeI w0 w tb t g st m n i0 j l) (hij : i0 + 1 < j) (ha : DropTo w0 w tb t g st m n i0 j (bytesI l) e w') :
    ∃ l1 l2 t' g' m' st', l = l1 ++ l2 ∧ (bytesI l1).length = 1024 ∧ e = .returned (.tuple #[.int .i64 ((1024 * (i0 + 1) : Nat) : Int), .int .i64 0]) ∧ TapeI w0 w' tb t' g' st' m' n (i0 + 1) j l2 ∧ g'.d = g.d ∧ m'.synced = max m.synced ((1024 * (i0 + 1) : Nat) : Int) ∧ st'.cap = st.cap ∧ Chg (fun q => q = t.rb ∨ q ∈ g.fp ∨ q ∈ t.foot tb) w w' ∧ (∀ q ∈ g'.fp, q ∈ g.fp ∨ w.heap.size ≤ q) ∧ t'.rb = t.rb ∧ t'.foot tb = t.foot tb := by
  obtain ⟨he, v', g', m', st', h1, h2, h3, h4, h5, h6, h7, h8, h9, h10⟩ := ha
  have htt := h.rc.tight hij
  have hle : 1024 * (i0 + 1) ≤ 1024 * (j - 1) := Nat.mul_le_mul_left 1024 (by omega)
  obtain ⟨l1, l2, e1, e2, e3, e4, e5⟩ := seg_split h.la rfl (by omega)
  have hla := h.la'
  rw [e1] at hla
  have hl1 := (laidAt_app.1 hla).1
  have hlow := low_split (p := 1024 * i0) (l1 := l1) (l2 := l2) hl1
  have hids := h.tn.ids
  rw [e1] at hids
  rw [← hids, e2, show 1024 * i0 + 1024 = 1024 * (i0 + 1) from by omega] at hlow
  rw [hlow] at h1 h10
  rw [e3] at h5
  have htn := h.tn
  rw [e1, notesI_app, e2, show 1024 * i0 + 1024 = 1024 * (i0 + 1) from by omega] at htn
  refine ⟨l1, l2, _, g', m', st', e1, e2, he, ⟨h1, h5, by rw [h3]; exact h.hd, laidAt_mod (p := 1024) (q := 0) (by omega) e5, ?_⟩, h2, h4, h6, h7, h8, rfl, h10⟩
  refine htn.forgot v' (ne_of_lt ?_)
  have := notesI_sorted hla
  rw [notesI_app, e2, show 1024 * i0 + 1024 = 1024 * (i0 + 1) from by omega] at this
  exact this
def IntsTo (w : World) (l : List Int) (e : Ending) (w' : World) : Prop := ∃ v', e = .returned v' ∧ w'.ownsRow w.heap.size 3 1 v' l.length (l.map (Value.int .i64)) ∧ Below w.heap.size w w'
theorem append_ints {w : World} {base : Nat} {v u : Value} {xs : List Int} (ys : List Int) (hown : w.ownsRow base 3 1 v xs.length (xs.map (Value.int .i64))) (hu : Ints w u ys) (hn : xs.length + ys.length ≤ 2000000) (hb : base ≤ w.heap.size) (ty : TypeId) :
    ∃ v' w', (Builtin.append_ #[32, 32] ty #[v, u]).run Tryz.prog w = .ok v' w' ∧ w'.ownsRow base 3 1 v' (xs ++ ys).length ((xs ++ ys).map (Value.int .i64)) ∧ w.grownBy w' v.ownBlock := by
  obtain ⟨i0, hi, hz0, hz1, hz2⟩ := info_parts info_num
  obtain ⟨a, cap, rfl, h⟩ := hu
  rw [List.length_append, List.map_append]
  cases a with
  | none =>
    have h0 : ys = [] := by
      rcases h with h | ⟨b, o, h, _⟩
      · exact h
      · cases h
    subst h0
    refine ⟨v, w, ?_, by simpa using hown, grownBy_refl _ _⟩
    rcases hown.2 with ⟨rfl, hx⟩ | ⟨g, cap, cur, rfl, _, _, hnc, _⟩
    · simp [Builtin.append_, run_underlying Tryz.underlying32, sizeOf, typeInfo, hi, Builtin.lenOf, Builtin.firstCells]
    · simp [Builtin.append_, run_underlying Tryz.underlying32, sizeOf, typeInfo, hi, Builtin.lenOf, Builtin.firstCells, hnc, storeCells]
  | some a =>
    have hc : ∀ j u, (ys.map (Value.int .i64))[j]? = some u → w.cell? (a.add j) = some u := by
      intro j u hj
      have hlt : j < ys.length := by
        have := (List.getElem?_eq_some_iff.1 hj).1
        simpa using this
      rcases h with h | ⟨b, o, h, h2⟩
      · subst h; simp at hlt
      · cases h
        rw [add_none, h2 j hlt]
        rw [List.getElem?_map, List.getElem?_eq_getElem hlt] at hj
        simp only [Option.map_some, Option.some.injEq] at hj
        rw [← hj, List.getD_eq_getElem?_getD, List.getElem?_eq_getElem hlt]
        rfl
    obtain ⟨v', w', h1, h2, h3, _⟩ := run_append_own (P := Tryz.prog) w base 32 ty 3 i0 (.int .i64 0) 1 8 Tryz.underlying32 hi hz0 hz1 hz2 rfl (by decide) v xs.length (xs.map (Value.int .i64)) hown a ys.length cap (ys.map (Value.int .i64)) (by simp) hc (by
      intro u hu
      obtain ⟨t, _, rfl⟩ := List.mem_map.1 hu
      rfl) (by unfold maxLen; omega) (by omega) hb
    exact ⟨v', w', h1, h2, h3⟩
theorem wpList_append_ints {w : World} {ops : Array Oper} {rest : List Oper} {o : Oper} {a : Act} {Q : Exit → Act → World → Prop} (hgd : o.guard = none) (sl x : Operand)
    (ho : o.op = .call { callee := .builtin .append, args := #[sl, x], argTypes := #[32, 32] })
    (base : Nat) (v u : Value) (xs ys : List Int) (hs : a.eval sl = v) (hx : a.eval x = u) (hown : w.ownsRow base 3 1 v xs.length (xs.map (Value.int .i64))) (hu : Ints w u ys) (hn : xs.length + ys.length ≤ 2000000) (hbase : base ≤ w.heap.size)
    (h : ∀ v' w', w'.ownsRow base 3 1 v' (xs ++ ys).length ((xs ++ ys).map (Value.int .i64)) → w.grownBy w' v.ownBlock → wpList Tryz.prog ops Q rest (a.put o.dst v') w') : wpList Tryz.prog ops Q (o :: rest) a w := by
  refine wpList_plain hgd fun K hK => ?_
  obtain ⟨v', w', hr, h2, h3⟩ := append_ints (w := w) (u := u) ys hown hu hn hbase o.type
  unfold Oper.wp execOp
  simp only [ho, resolve, invoke, builtin, Sem.run_bind, Sem.run_pure, Result.andThen_ok, List.map_toArray, List.map_cons, List.map_nil, hs, hx, hr]
  exact hK _ _ (h v' w' h2 h3)
theorem iclone_any (v : Value) (l : List Int) (w : World) (h : Ints w v l) (hl : l.length ≤ 1000000) :
    Calls Tryz.prog 60 #[v] w (IntsTo w l) := by
  obtain ⟨a, c, rfl, h'⟩ := id h
  cases a with
  | none =>
    have h0 : l = [] := by
      rcases h' with h | ⟨b, o, h, _⟩
      · exact h
      · cases h
    subst h0
    have hnil := fun W => Lib.run_eql_slice_nil (P := Tryz.prog) W 32 3 none 0 c 0 0 Tryz.underlying32
    clear h h'
    go_enter Tryz.func60, Tryz.ntmps60
    go_wp2_with fail
    go_ret
    exact ⟨_, rfl, World.ownsRow_nil _ _ _ _, Below.refl _ _⟩
  | some a =>
    obtain ⟨n, hn⟩ : ∃ n, n = l.length := ⟨_, rfl⟩
    rw [← hn] at h
    rw [← hn]
    have hnil := fun W => Lib.run_eql_slice_nil (P := Tryz.prog) W 32 3 (some a) n c 0 0 Tryz.underlying32
    have H := Lib.hid h
    have HN := Lib.hid hn
    clear h h' hn
    go_enter Tryz.func60, Tryz.ntmps60
    go_wp2_with (at_builtin; with_reducible refine wpList_append_ints rfl (.tmp 5) (.tmp 6) rfl w.heap.size (.slice (some ⟨w.heap.size, 0, none⟩) 0 0) _ [] l rfl rfl ?c1 ?c2 ?c3 ?c4 ?c5)
    case c1 => exact World.ownsRow_made w #[] 0 (Nat.le_refl _) (Nat.zero_le _) rfl
    case c2 => exact H.out.below ((Below.refl _ _).alloc (Nat.le_refl _) _) (Nat.le_refl _)
    case c3 => simp; omega
    case c4 => simp [go_sem]
    case c5 =>
      intro v' w' ho hg
      have HO := Lib.hid ho
      have HB : Hid (Below w.heap.size w w') := Lib.hid (((Below.refl _ _).alloc (Nat.le_refl _) _).grown hg (by simp [go_sem]) (fun k hk => by simp [Value.ownBlock] at hk; omega))
      clear ho hg
      go_wp2_with fail
      go_ret
      exact ⟨_, rfl, HO.out, HB.out⟩
theorem tids_any {w0 w : World} {tb d : Nat} {t : TapeM} (h : TapeAt w0 w tb d t) (hs : t.ids.Pairwise (· ≤ ·)) (hn : t.ids.length ≤ 1000000) (a : Int) :
    Calls Tryz.prog 28 #[.pointer (some ⟨tb, 0, none⟩), .int .i64 a] w (IntsTo w (t.ids.drop (lowN t.ids a))) := by
  have HF := Lib.hid (tfrom_any h hs hn a)
  obtain ⟨l, hl⟩ : ∃ l, l = t.ids.drop (lowN t.ids a) := ⟨_, rfl⟩
  have hll : l.length ≤ 1000000 := by rw [hl, List.length_drop]; omega
  rw [← hl] at HF ⊢
  clear h hs hn hl
  go_enter Tryz.func28, Tryz.ntmps28
  go_wp2_with fail
  refine HF.out.mono ?_
  rintro e w1 ⟨v', rfl, hv, _, q, rfl⟩
  obtain ⟨a', c', hv'⟩ := id hv
  have HV := Lib.hid hv
  have hC := iclone_any v' l (w.drewN q) (by exact hv) hll
  obtain ⟨ve, _⟩ := hv'
  rw [ve] at hC ⊢
  have HC := Lib.hid hC
  clear hC hv ve
  go_wp2_with fail
  refine HC.out.mono ?_
  rintro e w2 ⟨v2, rfl, ho, hb⟩
  go_wp2_with fail
  go_ret
  exact ⟨_, rfl, ho, (below_drewN (Below.refl w.heap.size w) q).trans hb⟩
theorem le_of_lt' {l : List Int} (h : l.Pairwise (· < ·)) : l.Pairwise (· ≤ ·) := h.imp (fun h => Int.le_of_lt h)
set_option maxRecDepth 100000 in
theorem tdrop_few {w0 w : World} {tb : Nat} {t : TapeM} {g : Gh} {st : St} {m : RowM} {n i0 j : Nat} {all : List UInt8} (h : TapeG w0 w tb t g st m) (hk : RowC n m st 1024 i0 j all) (hij : j ≤ i0 + 1) :
    Calls Tryz.prog 17 #[.pointer (some ⟨tb, 0, none⟩)] w (TGTo (.tuple #[.int .i64 0, .int .i64 9]) w0 tb t g.d n 1024 i0 j all m.head m.synced st (fun q => q = t.rb ∨ q ∈ g.fp) w) := by
  have HR := Lib.hid (trow_any h.tape)
  have HD := Lib.hid (c_drop_few h.row hk hij)
  have HT := Lib.hid h
  clear h hk hij
  go_enter Tryz.func17, Tryz.ntmps17
  go_wp2_with fail
  refine HR.out.mono ?_
  rintro e w1 ⟨rfl, rfl⟩
  go_wp2_with fail
  refine HD.out.mono ?_
  rintro e w2 ⟨rfl, g1, m1, st1, p1, p2, p3, p4, p5, p6, p7⟩
  have hT2 := HT.out.step p1 p2
  have HP := Lib.hid (And.intro hT2 (And.intro p2 (And.intro p3 (And.intro p4 (And.intro p5 (And.intro p6 p7))))))
  clear p1 p2 p3 p4 p5 p6 p7 hT2
  go_wp2_with fail
  obtain ⟨hT2, p2, p3, p4, p5, p6, p7⟩ := HP.out
  refine bodyPost_ret (v := .tuple #[.int .i64 0, .int .i64 9]) (by simp [results, Tryz.results17, go_sem]) rfl ?_
  exact ⟨rfl, g1, m1, st1, hT2, p2.d, p4, p5, p6, p7, p2.chg, fun q hq => (p2.fp q hq).imp .inr id, p3⟩
set_option maxRecDepth 100000 in
theorem tnext_any {w0 w : World} {tb d : Nat} {t : TapeM} (h : TapeAt w0 w tb d t) (hs : t.ids.Pairwise (· ≤ ·)) (hn : t.ids.length ≤ 1000000) (a : Int) :
    Calls Tryz.prog 26 #[.pointer (some ⟨tb, 0, none⟩), .int .i64 a] w fun e w' => e = .returned (.tuple #[.int .i64 ((t.ids.drop (lowN t.ids a)).getD 0 0), .bool (!(t.ids.drop (lowN t.ids a)).isEmpty)]) ∧ ∃ q, w' = w.drewN q := by
  have hF := tfrom_own h hs hn a
  obtain ⟨l, hl⟩ : ∃ l, l = t.ids.drop (lowN t.ids a) := ⟨_, rfl⟩
  have hll : l.length ≤ 1000000 := by rw [hl, List.length_drop]; omega
  rw [← hl] at hF ⊢
  have HF := Lib.hid hF
  clear h hs hn hl hF
  go_enter Tryz.func26, Tryz.ntmps26
  go_wp2_with fail
  refine HF.out.mono ?_
  rintro e w1 ⟨v', rfl, hov, hbv, q, rfl⟩
  rcases own_form' hov with ⟨h0, hv⟩ | ⟨g, o, c, hv, hc, hcell⟩
  · subst hv
    subst h0
    clear hov hbv
    go_wp2_with fail
    refine bodyPost_ret (v := .tuple #[.int .i64 0, .bool false]) (by simp [results, Tryz.results26, go_sem]) rfl ⟨rfl, q, rfl⟩
  · cases l with
    | nil =>
      subst hv
      clear hov hbv hcell
      rw [show ([] : List Int).length = 0 from rfl]
      go_wp2_with fail
      refine bodyPost_ret (v := .tuple #[.int .i64 0, .bool false]) (by simp [results, Tryz.results26, go_sem]) rfl ⟨rfl, q, rfl⟩
    | cons x l =>
      have hx := hcell 0 (by simp)
      rw [Nat.add_zero] at hx
      have hx : (w.drewN q).cell? ⟨g, o, none⟩ = some (.int .i64 x) := hx
      obtain ⟨k, hk⟩ : ∃ k, k = (x :: l).length := ⟨_, rfl⟩
      have hk0 : 0 < k := by rw [hk]; simp
      rw [← hk] at hv hll
      subst hv
      clear hov hbv hcell hc hk
      go_wp2_with fail
      refine bodyPost_ret (v := .tuple #[.int .i64 x, .bool true]) (by simp [results, Tryz.results26, go_sem]) rfl ⟨rfl, q, rfl⟩
set_option maxRecDepth 100000 in
theorem tlast_any {w0 w : World} {tb d : Nat} {t : TapeM} (h : TapeAt w0 w tb d t) (hs : t.ids.Pairwise (· ≤ ·)) (hn : t.ids.length ≤ 1000000) :
    Calls Tryz.prog 58 #[.pointer (some ⟨tb, 0, none⟩)] w fun e w' => e = .returned (.int .i64 (if (t.ids.drop (lowN t.ids 0)).isEmpty then 0 else t.last)) ∧ ∃ q, w' = w.drewN q := by
  have hF := tfrom_own h hs hn 0
  obtain ⟨l, hl⟩ : ∃ l, l = t.ids.drop (lowN t.ids 0) := ⟨_, rfl⟩
  have hll : l.length ≤ 1000000 := by rw [hl, List.length_drop]; omega
  have c5 := h.cell.2.2.2.2.2.1
  rw [← hl] at hF ⊢
  obtain ⟨r, hr⟩ : ∃ r : Int, r = if l.isEmpty then 0 else t.last := ⟨_, rfl⟩
  rw [← hr]
  have HR := Lib.hid hr
  have HF := Lib.hid hF
  clear h hs hn hl hF hr
  go_enter Tryz.func58, Tryz.ntmps58
  go_wp2_with fail
  refine HF.out.mono ?_
  rintro e w1 ⟨v', rfl, hov, hbv, q, rfl⟩
  obtain ⟨p, c, hv⟩ := hov.slice
  obtain ⟨k, hk⟩ : ∃ k, k = l.length := ⟨_, rfl⟩
  rw [← hk] at hv hll
  subst hv
  clear hov hbv
  by_cases h0 : k = 0
  · have hl0 : l = [] := List.eq_nil_of_length_eq_zero (by omega)
    subst hl0
    subst h0
    have hr : r = 0 := HR.out
    subst hr
    clear hk
    go_wp2_with fail
    go_ret
    exact ⟨rfl, q, rfl⟩
  · have hl0 : l.isEmpty = false := by cases l with
      | nil => simp at hk; omega
      | cons x l => rfl
    have hk0 : 0 < k := by omega
    have hr : r = t.last := by rw [HR.out, hl0]; rfl
    subst hr
    clear hk hl0
    go_wp2_with fail
    go_ret
    exact ⟨rfl, q, rfl⟩
theorem TapeI.read {w0 w : World} {tb : Nat} {t : TapeM} {g : Gh} {st : St} {m : RowM} {n i0 j : Nat} {l1 l2 : List (MsgM × List UInt8)} {M : MsgM} {bs : List UInt8} (h : TapeI w0 w tb t g st m n i0 j (l1 ++ (M, bs) :: l2)) (hk : M.kind ≠ 0) (hal : 1024 * i0 + (bytesI l1).length ≤ 9000000000) :
    Calls Tryz.prog 19 #[.pointer (some ⟨tb, 0, none⟩), .int .i64 ((1024 * i0 + (bytesI l1).length : Nat) : Int)] w (ReadTo M 0 w) := by
  obtain ⟨h1, h2⟩ := laidAt_app.1 h.la
  rw [Nat.zero_add] at h2
  have hit := h2.1
  have hb : bytesI (l1 ++ (M, bs) :: l2) = bytesI l1 ++ (bs ++ bytesI l2) := by rw [bytesI_app, bytesI_cons]
  have hit2 : (bytesI l1).length % 1024 + bs.length = 1024 ∨ (bytesI l1).length % 1024 + bs.length + 3 ≤ 1024 := hit.2
  have hmem : (((1024 * i0 + (bytesI l1).length : Nat) : Int), (bs.length : Int), M.born) ∈ notesI (1024 * i0) (l1 ++ (M, bs) :: l2) := by
    rw [notesI_app]
    refine List.mem_append_right _ ?_
    show _ ∈ (if M.kind == 0 then [] else _) ++ _
    rw [if_neg (by simpa using hk)]
    exact List.mem_append_left _ (List.mem_singleton.2 rfl)
  have hsz := h.tn.siz _ hmem
  refine tread_ok h.tg h.rc (1024 * i0 + (bytesI l1).length) hal M bs hit.1 (by omega) ?_ (by omega) ?_ (by rw [hsz]; rfl)
  · rw [hb, List.length_append, List.length_append]
    omega
  · rw [hb, show 1024 * i0 + (bytesI l1).length - 1024 * i0 = (bytesI l1).length from by omega, List.drop_left, List.take_left]
theorem ints_form {w : World} {v : Value} {zs : List Int} (h : Ints w v zs) : ∃ a cap, v = .slice a zs.length cap := by
  obtain ⟨a, cap, e, _⟩ := h
  exact ⟨a, cap, e⟩
theorem ints_cell {w : World} {a : Option Addr} {n cap k : Nat} {zs : List Int} (h : Ints w (.slice a n cap) zs) (hk : k < zs.length) : ∃ b o, a = some ⟨b, o, none⟩ ∧ w.cell? ⟨b, o + k, none⟩ = some (.int .i64 (zs.getD k 0)) := by
  obtain ⟨a', cap', e, h⟩ := h
  cases e
  rcases h with h | ⟨b, o, e, h⟩
  · rw [h] at hk; simp at hk
  · exact ⟨b, o, e, h k hk⟩
theorem take_snoc_int (ts : List Int) {k : Nat} (h : k < ts.length) : ts.take (k + 1) = ts.take k ++ [ts.getD k 0] := by
  rw [List.take_add_one, List.getElem?_eq_getElem h, List.getD_eq_getElem?_getD, List.getElem?_eq_getElem h]
  rfl
set_option maxHeartbeats 400000 in
theorem ints_any (v u : Value) (ts us : List Int) (w : World) (hv : Ints w v ts) (hu : Ints w u us) (hl : ts.length ≤ 1000000) : Calls Tryz.prog 27 #[v, u] w fun e w' => e = .returned (.bool (decide (ts = us))) ∧ ∃ k, w' = w.drewN k := by
  have HV := Lib.hid hv
  have HU := Lib.hid hu
  obtain ⟨a, cap, rfl⟩ := ints_form hv
  obtain ⟨c, cap2, rfl⟩ := ints_form hu
  clear hv hu
  by_cases hlen : ts.length = us.length
  · have hb : ((ts.length : Int) == us.length) = true := by simp [hlen]
    have hnb : ((ts.length : Int) != us.length) = false := by simp [hlen]
    have HLEN := Lib.hid hlen
    clear hlen
    go_enter Tryz.func27, Tryz.ntmps27
    go_wp2_with fail
    go_loopw [5] (fun i wr => ∃ k : Nat, k ≤ ts.length ∧ i = .int .i64 k ∧ ts.take k = us.take k ∧ ∃ d, wr = w.drewN d) (fun i _ => ts.length - (intOf i).toNat)
    case atStart => exact ⟨0, Nat.zero_le _, rfl, rfl, 0, rfl⟩
    case round =>
      obtain ⟨k, hk, rfl, heq, d, rfl⟩ := hrel
      have HEQ := Lib.hid heq
      clear heq
      by_cases hlt : k < ts.length
      · obtain ⟨b, o, rfl, hck⟩ := ints_cell HV.out hlt
        obtain ⟨b2, o2, rfl, hck2⟩ := ints_cell (k := k) HU.out (by rw [← HLEN.out]; exact hlt)
        have hlt2 : k < us.length := by rw [← HLEN.out]; exact hlt
        obtain ⟨t, ht⟩ : ∃ t, t = ts.getD k 0 := ⟨_, rfl⟩
        obtain ⟨u, hu⟩ : ∃ t, t = us.getD k 0 := ⟨_, rfl⟩
        rw [← ht] at hck
        rw [← hu] at hck2
        have HT := Lib.hid ht
        have HUU := Lib.hid hu
        clear ht hu
        by_cases htu : t = u
        · subst htu
          go_wp2_with fail
          go_quiet (fail)
          go_wp2_with fail
          refine ⟨⟨k + 1, by omega, by go_num, ?_, _, rfl⟩, by simp [intOf]; omega⟩
          rw [take_snoc_int ts hlt, take_snoc_int us hlt2, HEQ.out, ← HT.out, ← HUU.out]
        · have HNE : Hid (¬ ts = us) := Lib.hid fun h => htu (by rw [HT.out, HUU.out, h])
          have h1 : (t == u) = false := by simpa using htu
          have h2 : (t != u) = true := by simpa using htu
          clear htu
          go_wp2_with fail
          go_quiet (fail)
          go_wp2_with fail
          go_ret
          exact ⟨by rw [decide_eq_false HNE.out]; rfl, d + _, drewN_add _ _ _⟩
      · obtain rfl : k = ts.length := by omega
        have h : ts = us := by
          have h1 := HEQ.out
          rwa [List.take_of_length_le (Nat.le_refl _), List.take_of_length_le (by rw [HLEN.out]; exact Nat.le_refl _)] at h1
        have HD := Lib.hid (decide_eq_true h)
        clear h
        go_wp2_with fail
        go_ret
        exact ⟨by rw [HD.out]; rfl, _, rfl⟩
  · have HD := Lib.hid (decide_eq_false (show ¬ ts = us from fun h => hlen (by rw [h])))
    have hb : ((ts.length : Int) == us.length) = false := by simpa using (show ¬ (ts.length : Int) = us.length by omega)
    have hnb : ((ts.length : Int) != us.length) = true := by simpa using (show ¬ (ts.length : Int) = us.length by omega)
    clear hlen
    go_enter Tryz.func27, Tryz.ntmps27
    go_wp2_with fail
    go_ret
    exact ⟨by rw [HD.out]; rfl, 0, rfl⟩
structure RefC (w : World) (rb : Nat) (B : ByteArray) (begin : Int) (vI vL : Value) (ids : List Int) : Prop where
  at_ : w.heap[rb]? = some (.cells #[.string B, .int .i64 begin, vI, vL] 35 (0, 0))
  ids : Ints w vI ids
theorem RefC.cell {w : World} {rb : Nat} {B : ByteArray} {begin : Int} {vI vL : Value} {ids : List Int} (h : RefC w rb B begin vI vL ids) : w.cell? ⟨rb, 0, none⟩ = some (.string B) ∧ w.cell? ⟨rb, 1, none⟩ = some (.int .i64 begin) ∧ w.cell? ⟨rb, 2, none⟩ = some vI ∧ w.cell? ⟨rb, 3, none⟩ = some vL ∧ ∀ i, w.frozen? ⟨rb, i, none⟩ = false := by
  have h0 := h.at_
  refine ⟨?_, ?_, ?_, ?_, fun i => ?_⟩ <;> simp [World.cell?, World.frozen?, h0]
def findR (ids : List Int) (begin id : Int) : Int := if begin ≤ id ∧ id ∈ ids then (ids.idxOf id : Int) else -1
theorem findR_at {ids : List Int} {begin id : Int} {k : Nat} (hk : k < ids.length) (hx : ids.getD k 0 = id) (hb : begin ≤ id) (hj : ∀ j, j < k → ids.getD j 0 ≠ id) : findR ids begin id = (k : Int) := by
  rw [List.getD_eq_getElem?_getD, List.getElem?_eq_getElem hk] at hx
  have hx : ids[k] = id := hx
  unfold findR
  rw [if_pos ⟨hb, by rw [← hx]; exact List.getElem_mem hk⟩]
  congr 1
  refine Nat.le_antisymm ?_ ?_
  · rw [Nat.le_iff_lt_or_eq, ← Nat.not_le]
    by_cases h : ids.idxOf id ≤ k
    · omega
    · exfalso
      have := List.not_of_lt_findIdx (p := (· == id)) (xs := ids) (i := k) (by unfold List.idxOf at h; omega)
      simp [hx] at this
  · refine Nat.not_lt.1 fun h => ?_
    have h1 : ids.idxOf id < ids.length := by omega
    have h2 : ids[ids.idxOf id] = id := List.getElem_idxOf h1
    refine hj _ h ?_
    rw [List.getD_eq_getElem?_getD, List.getElem?_eq_getElem h1]
    exact h2
theorem findR_none {ids : List Int} {begin id : Int} (hj : ∀ j, j < ids.length → ¬ (ids.getD j 0 = id ∧ begin ≤ id)) : findR ids begin id = -1 := by
  unfold findR
  rw [if_neg]
  rintro ⟨hb, hm⟩
  obtain ⟨j, hj1, hj2⟩ := List.mem_iff_getElem.1 hm
  refine hj j hj1 ⟨?_, hb⟩
  rw [List.getD_eq_getElem?_getD, List.getElem?_eq_getElem hj1]
  exact hj2
set_option maxHeartbeats 1000000 in
set_option maxRecDepth 100000 in
theorem rfind_any {w : World} {rb : Nat} {B : ByteArray} {begin : Int} {vI vL : Value} {ids : List Int} (h : RefC w rb B begin vI vL ids) (hn : ids.length ≤ 1000000) (id : Int) :
    Calls Tryz.prog 20 #[.pointer (some ⟨rb, 0, none⟩), .int .i64 id] w fun e w' => e = .returned (.int .i64 (findR ids begin id)) ∧ ∃ q, w' = w.drewN q := by
  obtain ⟨c0, c1, c2, c3, z⟩ := h.cell
  obtain ⟨r, hr⟩ : ∃ r, r = findR ids begin id := ⟨_, rfl⟩
  rw [← hr]
  have HR := Lib.hid hr
  have HI := Lib.hid h.ids
  obtain ⟨a, cap, hv⟩ := ints_form h.ids
  obtain ⟨n, hn'⟩ : ∃ n, n = ids.length := ⟨_, rfl⟩
  have HN := Lib.hid hn'
  rw [← hn'] at hv hn
  subst hv
  clear h hr hn' c0 c3 z
  go_enter Tryz.func20, Tryz.ntmps20
  go_wp2_with fail
  go_loopw [5] (fun i wr => ∃ k : Nat, k ≤ n ∧ i = .int .i64 k ∧ (∀ j, j < k → ¬ (ids.getD j 0 = id ∧ begin ≤ id)) ∧ ∃ d, wr = w.drewN d) (fun i _ => n - (intOf i).toNat)
  case atStart => exact ⟨0, Nat.zero_le _, rfl, fun j hj => by omega, 0, rfl⟩
  case round =>
    obtain ⟨k, hk, rfl, hj, d, rfl⟩ := hrel
    have HJ := Lib.hid hj
    clear hj
    by_cases hlt : k < n
    · obtain ⟨b, o, hab, hck⟩ := ints_cell (k := k) HI.out (by rw [← HN.out]; exact hlt)
      subst hab
      obtain ⟨x, hx⟩ : ∃ x, x = ids.getD k 0 := ⟨_, rfl⟩
      rw [← hx] at hck
      have HX := Lib.hid hx
      clear hx
      by_cases hxi : x = id
      · subst hxi
        by_cases hb : begin ≤ x
        · have hrk : r = (k : Int) := by rw [HR.out]; exact findR_at (by rw [← HN.out]; exact hlt) HX.out.symm hb (fun j hj e => HJ.out j hj ⟨e, hb⟩)
          subst hrk
          go_wp2_with fail
          go_ret
          exact ⟨rfl, d, rfl⟩
        · have hj2 : ∀ j, j < k + 1 → ¬ (ids.getD j 0 = x ∧ begin ≤ x) := fun j _ e => hb e.2
          have HJ2 := Lib.hid hj2
          clear hj2
          go_wp2_with fail
          exact ⟨⟨k + 1, by omega, by go_num, HJ2.out, _, rfl⟩, by simp [intOf]; omega⟩
      · have hj2 : ∀ j, j < k + 1 → ¬ (ids.getD j 0 = id ∧ begin ≤ id) := fun j hjk e => by
          by_cases he : j = k
          · subst he
            exact hxi (HX.out.trans e.1)
          · exact HJ.out j (by omega) e
        have HJ2 := Lib.hid hj2
        have hx1 : (x == id) = false := by simpa using hxi
        clear hj2 hxi
        go_wp2_with fail
        exact ⟨⟨k + 1, by omega, by go_num, HJ2.out, _, rfl⟩, by simp [intOf]; omega⟩
    · have hrk : r = -1 := by rw [HR.out]; exact findR_none (fun j hj => HJ.out j (by have := HN.out; omega))
      subst hrk
      go_wp2_with fail
      go_ret
      exact ⟨rfl, d, rfl⟩
set_option maxRecDepth 100000 in
theorem rdrop_few {w : World} {rb : Nat} {B : ByteArray} {begin : Nat} {vI vL : Value} {ids : List Int} (h : RefC w rb B begin vI vL ids) (hb : begin ≤ 1000000000) (hB : B.size ≤ begin + 1024) :
    Calls Tryz.prog 18 #[.pointer (some ⟨rb, 0, none⟩)] w fun e w' => e = .returned (.bool false) ∧ ∃ q, w' = w.drewN q := by
  obtain ⟨c0, c1, c2, c3, z⟩ := h.cell
  clear h c2 c3
  go_enter Tryz.func18, Tryz.ntmps18
  go_upto_region 1 with fail
  go_quiet (fail)
  go_wp2_with fail
  go_ret
  exact ⟨rfl, _, rfl⟩
theorem ints_new {w w' : World} {v : Value} {zs : List Int} (h : Ints w v zs) (hc : Chg (fun _ => False) w w') : Ints w' v zs := by
  obtain ⟨a, cap, e, h⟩ := h
  refine ⟨a, cap, e, ?_⟩
  rcases h with h | ⟨b, o, e2, h⟩
  · exact .inl h
  · exact .inr ⟨b, o, e2, fun j hj => hc.cell (h j hj) (fun x => x)⟩
theorem RefC.new {w w' : World} {rb : Nat} {B : ByteArray} {begin : Int} {vI vL : Value} {ids : List Int} (h : RefC w rb B begin vI vL ids) (hc : Chg (fun _ => False) w w') : RefC w' rb B begin vI vL ids := ⟨hc.heap h.at_ (fun x => x), ints_new h.ids hc⟩
def fromR (ids : List Int) (begin a : Int) : List Int := ids.filter fun x => decide (a ≤ x) && decide (begin ≤ x)
def FromR (w : World) (l : List Int) (e : Ending) (w' : World) : Prop := ∃ v', e = .returned v' ∧ OwnI w' w.heap.size v' l ∧ Below w.heap.size w w'
theorem fromR_step {ids : List Int} {begin a : Int} {k : Nat} (hk : k < ids.length) : fromR (ids.take (k + 1)) begin a = fromR (ids.take k) begin a ++ if (decide (a ≤ ids.getD k 0) && decide (begin ≤ ids.getD k 0)) = true then [ids.getD k 0] else [] := by
  unfold fromR
  rw [take_snoc_int ids hk, List.filter_append, List.filter_cons, List.filter_nil]
set_option maxHeartbeats 1000000 in
set_option maxRecDepth 100000 in
theorem rfrom_any {w : World} {rb : Nat} {B : ByteArray} {begin : Int} {vI vL : Value} {ids : List Int} (h : RefC w rb B begin vI vL ids) (hn : ids.length ≤ 1000000) (at_ : Int) :
    Calls Tryz.prog 25 #[.pointer (some ⟨rb, 0, none⟩), .int .i64 at_] w (FromR w (fromR ids begin at_)) := by
  have HC := Lib.hid h
  obtain ⟨a, cap, hv⟩ := ints_form h.ids
  obtain ⟨n, hn'⟩ : ∃ n, n = ids.length := ⟨_, rfl⟩
  have HN := Lib.hid hn'
  rw [← hn'] at hv hn
  subst hv
  clear h hn'
  have H0 : Hid (OwnI (w.alloc (.cells #[] 3)) w.heap.size (.slice (some ⟨w.heap.size, 0, none⟩) 0 0) (fromR (ids.take 0) begin at_)) := Lib.hid (ownI_new w w.heap.size #[] [] 0 (Nat.le_refl _) (Nat.le_refl _) (Nat.zero_le _) rfl (fun j hj => by simp at hj))
  have HB0 : Hid (Below w.heap.size w (w.alloc (.cells #[] 3))) := Lib.hid ((Below.refl _ _).alloc (Nat.le_refl _) _)
  go_enter Tryz.func25, Tryz.ntmps25
  go_wp2_with fail
  go_loopw [5, 6] (fun ov i wr => ∃ (k m c : Nat) (p : Option Addr), k ≤ n ∧ i = .int .i64 k ∧ ov = .slice p m c ∧ m ≤ k ∧ OwnI wr w.heap.size (.slice p m c) (fromR (ids.take k) begin at_) ∧ Below w.heap.size w wr) (fun _ i _ => n - (intOf i).toNat)
  case atStart => exact ⟨0, 0, 0, _, Nat.zero_le _, rfl, rfl, Nat.le_refl _, H0.out, HB0.out⟩
  case round =>
    obtain ⟨k, m, c, p, hk, rfl, rfl, hmk, ho, hb⟩ := hrel
    have hC := HC.out.new (Chg.of_below hb)
    obtain ⟨c0, c1, c2, c3, z⟩ := hC.cell
    have HI := Lib.hid hC.ids
    have HO := Lib.hid ho
    have HB := Lib.hid hb
    clear ho hb hC c0 c3 z
    by_cases hlt : k < n
    · obtain ⟨b, o, hab, hck⟩ := ints_cell (k := k) HI.out (by rw [← HN.out]; exact hlt)
      subst hab
      have hstep := fromR_step (begin := begin) (a := at_) (show k < ids.length by rw [← HN.out]; exact hlt)
      obtain ⟨x, hx⟩ : ∃ x, x = ids.getD k 0 := ⟨_, rfl⟩
      rw [← hx] at hck hstep
      clear hx
      by_cases ha : at_ ≤ x
      · have hd1 : decide (at_ ≤ x) = true := decide_eq_true ha
        by_cases hg : begin ≤ x
        · have hd2 : decide (begin ≤ x) = true := decide_eq_true hg
          rw [hd1, hd2] at hstep
          have HS := Lib.hid hstep
          clear hstep
          go_upto_region 5 with fail
          go_quiet (fail)
          have hb1 : Below w.heap.size w (wr.drewN nq) := below_drewN HB.out nq
          have HB1 := Lib.hid hb1
          have HO1 : Hid (OwnI (wr.drewN nq) w.heap.size (.slice p m c) (fromR (ids.take k) begin at_)) := Lib.hid (HO.out.chg (S := fun _ => False) ((Chg.refl _ _).drewN nq) (fun _ _ x => x))
          have hml : m = (fromR (ids.take k) begin at_).length := by
            obtain ⟨p', c', e⟩ := HO.out.slice
            injection e
          obtain ⟨WD, hWD⟩ : ∃ W, W = wr.drewN nq := ⟨_, rfl⟩
          have e1 : WD.cell? ⟨rb, 2, none⟩ = some (.slice (some ⟨b, o, none⟩) n cap) := by rw [hWD]; exact c2
          have e2 : WD.cell? ⟨b, o + k, none⟩ = some (.int .i64 x) := by rw [hWD]; exact hck
          rw [← hWD] at HB1 HO1 ⊢
          have HML := Lib.hid hml
          clear hb1 hml hWD c1 c2 hck
          go_wp2_with (at_builtin; with_reducible refine wpList_append_num rfl (.tmp 40) (.tmp 48) rfl w.heap.size (.slice p m c) (fromR (ids.take k) begin at_) rfl ?c3 WD.heap.size 1 x rfl ?c4 ?c6 ?c7 ?c5)
          case c3 => exact HO1.out.alloc _
          case c4 => simp
          case c6 => have := HML.out; omega
          case c7 => have := HB1.out.size; rw [World.size_alloc]; omega
          case c5 =>
            intro v' w3 ho3 hg3 hv3
            rw [show fromR (ids.take k) begin at_ ++ [x] = fromR (ids.take (k + 1)) begin at_ from HS.out.symm] at ho3
            obtain ⟨vp, vc, hvs⟩ := ho3.slice
            obtain ⟨vn, hvn⟩ : ∃ vn, vn = (fromR (ids.take (k + 1)) begin at_).length := ⟨_, rfl⟩
            have hvk : vn ≤ k + 1 := by rw [hvn, HS.out, List.length_append, ← HML.out]; simp; omega
            rw [← hvn] at hvs
            subst hvs
            have hB3 : Below w.heap.size w w3 := (HB1.out.alloc (by have := HB1.out.size; omega) _).grown hg3 (by rw [World.size_alloc]; have := HB1.out.size; omega) (fun q hq => by
              have := (HO1.out.lt q hq).1
              omega)
            have HB3 := Lib.hid hB3
            have HO3 := Lib.hid ho3
            clear hB3 ho3 hg3 hv3 hvn
            go_wp2_with fail
            exact ⟨⟨k + 1, vn, vc, vp, by omega, by go_num, rfl, hvk, HO3.out, HB3.out⟩, by simp [intOf]; omega⟩
        · have hd2 : decide (begin ≤ x) = false := decide_eq_false hg
          rw [hd1, hd2] at hstep
          have HS : Hid (fromR (ids.take (k + 1)) begin at_ = fromR (ids.take k) begin at_) := Lib.hid (by rw [hstep]; simp)
          clear hstep
          go_upto_region 5 with fail
          go_quiet (fail)
          have HB1 : Hid (Below w.heap.size w (wr.drewN nq)) := Lib.hid (below_drewN HB.out nq)
          have HO1 : Hid (OwnI (wr.drewN nq) w.heap.size (.slice p m c) (fromR (ids.take k) begin at_)) := Lib.hid (HO.out.chg (S := fun _ => False) ((Chg.refl _ _).drewN nq) (fun _ _ x => x))
          go_wp2_with fail
          exact ⟨⟨k + 1, m, c, p, by omega, by go_num, rfl, by omega, by rw [HS.out]; exact HO1.out, HB1.out⟩, by simp [intOf]; omega⟩
      · have hd1 : decide (at_ ≤ x) = false := decide_eq_false ha
        rw [hd1] at hstep
        have HS : Hid (fromR (ids.take (k + 1)) begin at_ = fromR (ids.take k) begin at_) := Lib.hid (by rw [hstep]; simp)
        clear hstep
        go_upto_region 5 with fail
        go_quiet (fail)
        have HB1 : Hid (Below w.heap.size w (wr.drewN nq)) := Lib.hid (below_drewN HB.out nq)
        have HO1 : Hid (OwnI (wr.drewN nq) w.heap.size (.slice p m c) (fromR (ids.take k) begin at_)) := Lib.hid (HO.out.chg (S := fun _ => False) ((Chg.refl _ _).drewN nq) (fun _ _ x => x))
        go_wp2_with fail
        exact ⟨⟨k + 1, m, c, p, by omega, by go_num, rfl, by omega, by rw [HS.out]; exact HO1.out, HB1.out⟩, by simp [intOf]; omega⟩
    · have hkn : k = ids.length := by have := HN.out; omega
      have HF : Hid (fromR (ids.take k) begin at_ = fromR ids begin at_) := Lib.hid (by rw [hkn, List.take_length])
      clear hkn
      go_wp2_with fail
      go_ret
      exact ⟨_, rfl, by rw [← HF.out]; exact HO.out, HB.out⟩
end Go.Proofs.YtccfkhlcnpfkiaaGreatDoor
