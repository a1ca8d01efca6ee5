/- A part. -/
import Derived.Test.YtdnhgodfmjapmaaGreatDoorDno41
set_option linter.unusedVariables false
set_option linter.unusedSimpArgs false
namespace Go.Proofs.YtdnhgodfmjapmaaGreatDoor
open Go.RowKit Go.Deep
attribute [local go_sem] fr_opt
def shrinkM (m : RowM) (e : Int) : RowM := { m with end_ := e, synced := min m.synced e }
set_option maxRecDepth 100000 in
theorem shrink_any (w0 : World) (b : Nat) (g : Gh) (st : St) (m : RowM) (a : Int) (w : World) (h : RowG w0 w b g st m) :
    Calls Tryz.prog 101 #[.pointer (some ⟨b, 0, none⟩), .int .i64 a] w fun e w' => e = .returned (.tuple #[]) ∧ RowG w0 w' b g st (shrinkM m a) ∧ RowTo w b g g w' := by
  obtain ⟨c0, c1, c2, c3, c4, c5, c6, c7, hz⟩ := h.row.cell
  have z4 := hz 4
  have z6 := hz 6
  have H := Lib.hid h
  clear hz h
  go_enter Tryz.func101, Tryz.ntmps101
  go_wp2_with fail
  go_end0
  have h1 := H.out.set 4 (.int .i64 a) { m with end_ := a } rfl
  have h2 := h1.1.set 6 (.int .i64 (min m.synced a)) (shrinkM m a) rfl
  have h3 := h1.2.trans h2.2
  refine ⟨rfl, ?_, ?_⟩
  · first | exact h2.1 | exact h2.1.drew | exact h2.1.drewN _
  · first | exact h3 | exact ⟨h3.chg.drew, h3.fp, h3.d⟩
def dropM (m : RowM) : RowM := { m with begin_ := m.begin_ + m.size, synced := max m.synced (m.begin_ + m.size), touched := max m.touched (m.begin_ + m.size) }
theorem cell_set_other4 (b : Nat) (F : Int) {w : World} {d : Nat} {m : RowM} (h : RowAt w b d m) : (w.setCell ⟨b, 5, none⟩ (.int .i64 F)).cell? ⟨b, 4, none⟩ = some (.int .i64 m.end_) :=
  (h.set 5 (.int .i64 F) { m with next := F } rfl).cell.2.2.2.2.1
def fromM (m : RowM) (a : Int) : Int := max ((a + m.size - 1) - (a + m.size - 1) % m.size) (m.begin_ + m.size)
def leaveM (m : RowM) (a : Int) : RowM := if fromM m a < m.next then shrinkM { m with next := fromM m a } (min m.end_ (fromM m a)) else m
def leaveS (m : RowM) (st : St) (a : Int) : St := deleteAll st (rowNames m (fromM m a).toNat)
theorem rowNames_nil {m : RowM} {u : Int} (h0 : 0 ≤ u) (h : ¬ u < m.next) : rowNames m u.toNat = [] := by
  unfold rowNames
  rw [plS_done _ _ _ (by omega)]
  rfl
theorem rowNames_pos {m : RowM} {u : Int} (h0 : 0 ≤ u) (hz : 0 < m.size) (h : u < m.next) : 0 < (rowNames m u.toNat).length := by
  unfold rowNames
  rw [plS_step _ _ _ (by omega) (by omega)]
  simp
set_option maxHeartbeats 2000000 in
set_option maxRecDepth 100000 in
theorem leave_any (w0 : World) (b : Nat) (g : Gh) (st : St) (m : RowM) (a : Int) (n : Nat) (w : World) (h : RowG w0 w b g st m) (hk : Calm n st) (hn : n ≤ 1048576) (hb0 : 0 ≤ m.begin_) (hs1 : 16 ≤ m.size) (hs2 : m.size ≤ 4096) (hh : m.head.size ≤ 1048576)
    (hnx : m.next ≤ 100000000) (hbn : m.begin_ ≤ m.next) (ha0 : m.begin_ ≤ a) (ha1 : a ≤ 100000000) (hf : ∀ t ∈ rowNames m (fromM m a).toNat, (st.find t).isSome = true) :
    Calls Tryz.prog 99 #[.pointer (some ⟨b, 0, none⟩), .int .i64 a] w fun e w' => e = .returned (.int .i64 0) ∧ ∃ g', RowG w0 w' b g' (leaveS m st a) (leaveM m a) ∧ RowTo w b g g' w' := by
  have hne : ¬ m.size = 0 := by omega
  have hm0 : 0 ≤ (a + m.size - 1) % m.size := Int.emod_nonneg _ hne
  have hm1 : (a + m.size - 1) % m.size < m.size := Int.emod_lt_of_pos _ (by omega)
  obtain ⟨pl, hpl⟩ : ∃ pl, pl = (a + m.size - 1) - (a + m.size - 1) % m.size := ⟨_, rfl⟩
  obtain ⟨F, hF⟩ : ∃ F, F = fromM m a := ⟨_, rfl⟩
  have hFp : F = max pl (m.begin_ + m.size) := by rw [hF, hpl]; rfl
  have hF0 : 0 ≤ F := by omega
  have hF1 : F ≤ 1099511627776 := by omega
  have hpl1 : pl ≤ 1099511627776 := by omega
  have hP : ∀ W, RowG w0 W b g st m → Calls Tryz.prog 89 #[.pointer (some ⟨b, 0, none⟩), .int .i64 (a + m.size - 1)] W fun e w' => e = .returned (.int .i64 pl) ∧ ∃ q, w' = W.drewN q := fun W hW => by
    rw [hpl]
    exact (rplace_any b g.d m (a + m.size - 1) W hW.row (by omega) (by omega) hs1 hs2).mono fun _ _ hh => ⟨hh.1, 0, hh.2.symm⟩
  have hw1 : IntKind.i64.wrap (a + m.size) = a + m.size := IntWalk.i64_in _ (by omega)
  have hw2 : IntKind.i64.wrap (a + m.size - 1) = a + m.size - 1 := IntWalk.i64_in _ (by omega)
  have hw3 : IntKind.i64.wrap (m.begin_ + m.size) = m.begin_ + m.size := IntWalk.i64_in _ (by omega)
  unfold leaveS leaveM
  rw [← hF] at hf ⊢
  by_cases hbe : m.begin_ = m.next
  · have hlt : ¬ F < m.next := by omega
    rw [if_neg hlt, rowNames_nil hF0 hlt]
    obtain ⟨c0, c1, c2, c3, c4, c5, c6, c7, hz⟩ := h.row.cell
    have hbb : (m.begin_ == m.next) = true := by simpa using hbe
    have H := Lib.hid h
    clear h hz hbe hlt hP hf hF hpl hFp hm0 hm1
    go_enter Tryz.func99, Tryz.ntmps99
    go_wp2_with fail
    go_quiet (fail)
    go_wp2_with fail
    go_ret
    exact ⟨rfl, g, H.out.drewN _, RowTo.new b g ((Chg.refl _ _).drewN _)⟩
  · have hbb : (m.begin_ == m.next) = false := by simpa using hbe
    have hN : ∀ W, RowG w0 W b g st m → Calls Tryz.prog 78 #[.pointer (some ⟨b, 0, none⟩), .int .i64 F] W fun e w' => ∃ v, e = .returned v ∧ Strs w' W.heap.size v (rowNames m F.toNat) ∧ Below W.heap.size W w' := fun W hW => by
      have := names_any w0 b g st m m.next.toNat m.size.toNat F.toNat W hW (by omega) (by omega) (by omega) (by omega) (by omega) hh (by omega)
      rwa [show ((F.toNat : Nat) : Int) = F by omega] at this
    have hsz : ∀ t ∈ rowNames m F.toNat, t.size ≤ maxLen := fun t ht => by
      obtain ⟨p, _, rfl⟩ := List.mem_map.1 ht
      rw [nameB_size]
      unfold maxLen
      omega
    have hlen : (rowNames m F.toNat).length ≤ 100000000 := by
      unfold rowNames
      rw [List.length_map]
      have := plS_length (x := m.next.toNat) (z := m.size.toNat) (by omega) m.next.toNat F.toNat (by omega)
      omega
    have hpos : F < m.next → 0 < (rowNames m F.toNat).length := fun hlt => rowNames_pos hF0 (by omega) hlt
    have hnil : m.next ≤ F → rowNames m F.toNat = [] := fun hlt => rowNames_nil hF0 (by omega)
    obtain ⟨rs, hrs⟩ : ∃ rs, rs = rowNames m F.toNat := ⟨_, rfl⟩
    rw [← hrs] at hN hsz hlen hf hpos hnil ⊢
    have hDL : ∀ W0 W v, DiskAt W0 g st → RowG w0 W b g st m → Strs W W0.heap.size v rs → Calls Tryz.prog 56 #[.pointer (some ⟨g.d, 0, none⟩), v] W (OpTo g 0 (deleteAll st rs) W) := fun W0 W v hd0 hW hsv => by
      have := delete_any g st v rs W hW.disk (strs_up hsv (Nat.zero_le _)) (out_new hd0 hsv (Nat.le_refl _)) hsz (by omega) hk.good.fuse hk.good.sizeOk (by have := hk.good.size; have := hk.good.cap; omega)
      rwa [hk.deleteE hf, hk.deleteS hf] at this
    obtain ⟨m', hm'⟩ : ∃ m', m' = if F < m.next then shrinkM { m with next := F } (min m.end_ F) else m := ⟨_, rfl⟩
    rw [← hm']
    have hm1 : F < m.next → m' = shrinkM { m with next := F } (min m.end_ F) := fun hx => by rw [hm', if_pos hx]
    have hm2 : m.next ≤ F → m' = m := fun hx => by rw [hm', if_neg (by omega)]
    have HM1 := Lib.hid hm1
    have HM2 := Lib.hid hm2
    clear hm1 hm2 hm'
    obtain ⟨n', hn'⟩ : ∃ n', n' = rs.length := ⟨_, rfl⟩
    rw [← hn'] at hlen hpos
    obtain ⟨c0, c1, c2, c3, c4, c5, c6, c7, hz⟩ := h.row.cell
    have H := Lib.hid h
    have HP := Lib.hid hP
    have HNN := Lib.hid hN
    have HDL := Lib.hid hDL
    have HNL := Lib.hid hn'
    have HFP := Lib.hid hFp
    have HNIL := Lib.hid hnil
    have HPOS := Lib.hid hpos
    clear h hz hP hN hDL hn' hFp hf hsz hF hpl hm0 hm1 hrs hnil hpos hbe hk c0 c1 c4 c6 c7
    go_enter Tryz.func99, Tryz.ntmps99
    go_wp2_with fail
    go_quiet (fail)
    go_wp2_with fail
    generalize hwa : w.drewN _ = wa
    have hga : RowG w0 wa b g st m := hwa ▸ H.out.drewN _
    have hta : RowTo w b g g wa := hwa ▸ RowTo.new b g ((Chg.refl _ _).drewN _)
    obtain ⟨c0, c1, c2, c3, c4, c5, c6, c7, hz⟩ := hga.row.cell
    have HGA := Lib.hid hga
    have HTA := Lib.hid hta
    clear hz hga hta hwa c0 c1 c4 c5 c6 c7
    go_quiet ((go_at_call 89; exact Calls.quiet_of (HP.out _ (HGA.out.drewN _))))
    go_wp2_with fail
    generalize hwb : wa.drewN _ = wb
    have hgb : RowG w0 wb b g st m := hwb ▸ HGA.out.drewN _
    have htb : RowTo w b g g wb := HTA.out.trans (hwb ▸ RowTo.new b g ((Chg.refl _ _).drewN _))
    have HGB := Lib.hid hgb
    have HTB := Lib.hid htb
    clear hgb htb hwb c2 c3 HGA HTA
    try rw [← HFP.out]
    refine (HNN.out _ HGB.out).mono ?_
    rintro e w2 ⟨rv, rfl, hsv, hb2⟩
    obtain ⟨ra, rc, hrv⟩ := hsv.form
    rw [← HNL.out] at hrv
    subst hrv
    have hg2 := HGB.out.new (Chg.of_below (S := fun _ => False) hb2)
    have ht2 := HTB.out.trans (RowTo.new b g (Chg.of_below hb2))
    have k0 := hg2.row.cell.1
    have HG2 := Lib.hid hg2
    have HT2 := Lib.hid ht2
    have HSV := Lib.hid hsv
    clear hg2 ht2 hsv hb2
    by_cases hlt : F < m.next
    · have hps := HPOS.out hlt
      have hn0 : ((n' : Int) == 0) = false := by simp; omega
      have HLT := Lib.hid hlt
      clear hlt
      go_wp2_with (go_at_call 56; refine (HDL.out _ _ _ HGB.out.disk HG2.out HSV.out).mono ?_; rintro e w3 ⟨rfl, g3, hd3, ht3⟩; have h3 := HG2.out.op hd3 ht3; have z5 := h3.1.row.cell.2.2.2.2.2.2.2.2 5; have k5 := h3.1.row.cell.2.2.2.2.2.1; have y4 := (cell_set_other4 b F h3.1.row))
      have h4 := h3.1.set 5 (.int .i64 F) { m with next := F } rfl
      have HSH := Lib.hid (shrink_any w0 b g3 _ _ (min m.end_ F) _ h4.1)
      have HT4 := Lib.hid (HT2.out.trans (h3.2.trans h4.2))
      clear h3 h4 hd3 ht3 z5 k5 y4
      refine HSH.out.mono ?_
      rintro e w5 ⟨rfl, hg5, ht5⟩
      have HG5 := Lib.hid hg5
      have HT5 := Lib.hid (HT4.out.trans ht5)
      clear hg5 ht5 HSH
      go_wp2_with fail
      go_ret
      rw [HM1.out HLT.out]
      exact ⟨rfl, g3, HG5.out, HT5.out⟩
    · have hlt' : m.next ≤ F := by omega
      have hrs0 := HNIL.out hlt'
      have HLT := Lib.hid hlt'
      obtain rfl : n' = 0 := by rw [HNL.out, hrs0]; rfl
      have HD0 : Hid (deleteAll st rs = st) := by show _ = _; rw [hrs0]; rfl
      clear hrs0 hlt hlt'
      go_wp2_with fail
      go_ret
      rw [HM2.out HLT.out, HD0.out]
      exact ⟨rfl, g, HG2.out, HT2.out⟩
theorem Calm.cutE {n : Nat} {st : St} (h : Calm n st) {nm : ByteArray} {f : FileM} {k : Int} (hf : st.find nm = some f) (h0 : 0 ≤ k) (h1 : k ≤ f.bytes.length) : Go.Proofs.YtdnhgodfmjapmaaGreatDoor.cutE st nm k = 0 := by
  unfold Go.Proofs.YtdnhgodfmjapmaaGreatDoor.cutE
  rw [if_neg (by rw [h.down]; simp), hf]
  simp only
  rw [if_neg (by omega), h.burnE]
set_option maxHeartbeats 2000000 in
set_option maxRecDepth 100000 in
theorem cut_end (w0 : World) (b : Nat) (g : Gh) (st st1 : St) (m m1 : RowM) (a : Int) (w : World) (h : RowG w0 w b g st m) (ha0 : m.begin_ ≤ a) (ha1 : a ≤ m.end_)
    (hL : ∀ W, RowG w0 W b g st m → Calls Tryz.prog 99 #[.pointer (some ⟨b, 0, none⟩), .int .i64 a] W fun e w' => e = .returned (.int .i64 0) ∧ ∃ g', RowG w0 w' b g' st1 m1 ∧ RowTo W b g g' w') (he : m1.end_ ≤ a) :
    Calls Tryz.prog 54 #[.pointer (some ⟨b, 0, none⟩), .int .i64 a] w fun e w' => e = .returned (.int .i64 0) ∧ ∃ g', RowG w0 w' b g' st1 m1 ∧ RowTo w b g g' w' := by
  obtain ⟨c0, c1, c2, c3, c4, c5, c6, c7, hz⟩ := h.row.cell
  have HL := Lib.hid (hL w h)
  clear h hz hL c0 c1 c2 c5 c6 c7
  go_enter Tryz.func54, Tryz.ntmps54
  go_wp2_with fail
  refine HL.out.mono ?_
  rintro e w1 ⟨rfl, g1, hg1, ht1⟩
  have d4 := hg1.row.cell.2.2.2.2.1
  have HG1 := Lib.hid hg1
  have HT1 := Lib.hid ht1
  clear hg1 ht1 c3 c4
  go_wp2_with fail
  go_ret
  exact ⟨rfl, g1, HG1.out, HT1.out⟩
set_option maxHeartbeats 4000000 in
set_option maxRecDepth 100000 in
theorem cut_mid (w0 : World) (b : Nat) (g : Gh) (st st1 : St) (m m1 : RowM) (a : Int) (n : Nat) (f : FileM) (w : World) (h : RowG w0 w b g st m) (ha0 : m.begin_ ≤ a) (ha1 : a ≤ m.end_) (ha2 : a ≤ 1099511627776)
    (hL : ∀ W, RowG w0 W b g st m → Calls Tryz.prog 99 #[.pointer (some ⟨b, 0, none⟩), .int .i64 a] W fun e w' => e = .returned (.int .i64 0) ∧ ∃ g', RowG w0 w' b g' st1 m1 ∧ RowTo W b g g' w') (he : a < m1.end_)
    (hk : Calm n st1) (hn : n ≤ 1048576) (hs1 : 16 ≤ m1.size) (hs2 : m1.size ≤ 4096) (hh : m1.head.size ≤ 1048576) (hx0 : m1.size ≤ m1.next) (hx1 : m1.next ≤ 100000000) (hl0 : m1.next - m1.size ≤ a) (hf : st1.find (nameB m1.head (m1.next - m1.size).toNat) = some f) (hfl : a - (m1.next - m1.size) ≤ f.bytes.length) :
    Calls Tryz.prog 54 #[.pointer (some ⟨b, 0, none⟩), .int .i64 a] w fun e w' => e = .returned (.int .i64 0) ∧ ∃ g', RowG w0 w' b g' (cutS st1 (nameB m1.head (m1.next - m1.size).toNat) (a - (m1.next - m1.size))) (shrinkM m1 a) ∧ RowTo w b g g' w' := by
  obtain ⟨c0, c1, c2, c3, c4, c5, c6, c7, hz⟩ := h.row.cell
  obtain ⟨la, hla⟩ : ∃ la, la = m1.next - m1.size := ⟨_, rfl⟩
  obtain ⟨u, hu⟩ : ∃ u : Nat, (u : Int) = la := ⟨la.toNat, by omega⟩
  have hun : la.toNat = u := by omega
  rw [← hla] at hl0 hf hfl ⊢
  rw [hun] at hf ⊢
  have hLs : ∀ W g1, RowG w0 W b g1 st1 m1 → Calls Tryz.prog 75 #[.pointer (some ⟨b, 0, none⟩)] W fun e w' => e = .returned (.int .i64 la) ∧ Chg (fun _ => False) W w' := fun W g1 hW => by
    rw [hla]
    refine (last_any b g1.d m1 W hW.row (by omega) (by omega) (by omega) (by omega)).mono ?_
    rintro e w' ⟨h1, q, rfl⟩
    exact ⟨h1, (Chg.refl _ _).drewN _⟩
  have hNm : ∀ W g1, RowG w0 W b g1 st1 m1 → Calls Tryz.prog 77 #[.pointer (some ⟨b, 0, none⟩), .int .i64 la] W fun e w' => e = .returned (.string (nameB m1.head u)) ∧ Below W.heap.size W w' := fun W g1 hW => by
    rw [← hu]
    exact rname_any b g1.d m1 W hW.row hW.tab u (by omega) (by omega)
  have hCt : ∀ W g1, RowG w0 W b g1 st1 m1 → Calls Tryz.prog 100 #[.pointer (some ⟨g1.d, 0, none⟩), .string (nameB m1.head u), .int .i64 (a - la)] W (OpTo g1 0 (cutS st1 (nameB m1.head u) (a - la)) W) := fun W g1 hW => by
    have := cut_any g1 st1 (nameB m1.head u) (a - la) W hW.disk (by rw [nameB_size]; unfold maxLen; omega) hk.good.fuse (by have := hk.good.size; have := hk.good.cap; omega) hk.good.sizeOk (fun f hf => by
      have hm := find_mem hf
      exact ⟨hk.good.allIn (by omega) _ hm, (hk.good.files _ hm).bytes⟩)
    have hce : cutE st1 (nameB m1.head u) (a - la) = 0 := hk.cutE (k := a - la) hf (by omega) hfl
    rwa [hce] at this
  have hwr : IntKind.i64.wrap (a - la) = a - la := IntWalk.i64_in _ (by omega)
  have HL := Lib.hid (hL w h)
  have HLS := Lib.hid hLs
  have HNM := Lib.hid hNm
  have HCT := Lib.hid hCt
  clear h hz hL hLs hNm hCt hf hfl hla hu hun c0 c1 c2 c5 c6 c7
  go_enter Tryz.func54, Tryz.ntmps54
  go_wp2_with fail
  refine HL.out.mono ?_
  rintro e w1 ⟨rfl, g1, hg1, ht1⟩
  have d4 := hg1.row.cell.2.2.2.2.1
  have k0 := hg1.row.cell.1
  have HG1 := Lib.hid hg1
  have HT1 := Lib.hid ht1
  clear hg1 ht1 c3 c4
  go_wp2_with fail
  go_region_held3 (fun w' => w'.cell? ⟨b, 0, none⟩ = some (.pointer (some ⟨g1.d, 0, none⟩)))
    (first | exact k0 | go_keep)
    (first
      | (go_at_call 75
         ((with_reducible refine (HLS.out _ g1 ?_).mono ?_))
         · exact HG8.out
         rintro e w9 ⟨rfl, hc9⟩
         have hg9 := HG8.out.new hc9
         have k0 := hg9.row.cell.1
         have HT9 : Hid (RowTo w b g g1 w9) := HT8.out.trans (RowTo.new b g1 hc9)
         have HG9 := Lib.hid hg9
         clear hc9 hg9)
      | (go_at_call 75
         ((with_reducible refine (HLS.out _ g1 ?_).mono ?_))
         · exact HG1.out.drew
         rintro e w7 ⟨rfl, hc7⟩
         have hg7 := HG1.out.drew.new hc7
         have k0 := hg7.row.cell.1
         have HT7 : Hid (RowTo w b g g1 w7) := HT1.out.trans (RowTo.new b g1 ((Chg.refl _ _).drew.trans hc7 (fun _ _ x => x)))
         have HG7 := Lib.hid hg7
         clear hc7 hg7)
      | (go_at_call 77
         ((with_reducible refine (HNM.out _ g1 ?_).mono ?_))
         · exact HG7.out
         rintro e w8 ⟨rfl, hb8⟩
         have hg8 := HG7.out.new (Chg.of_below (S := fun _ => False) hb8)
         have k0 := hg8.row.cell.1
         have HT8 : Hid (RowTo w b g g1 w8) := HT7.out.trans (RowTo.new b g1 (Chg.of_below hb8))
         have HG8 := Lib.hid hg8
         clear hb8 hg8)
      | (go_at_call 100
         ((with_reducible refine (HCT.out _ g1 ?_).mono ?_))
         · exact HG9.out
         rintro e w10 ⟨rfl, g2, hd2, ht2⟩
         have hga := HG9.out.op hd2 ht2
         have k0 := hga.1.row.cell.1
         rw [hga.2.d] at k0
         have HTA : Hid (RowTo w b g g2 w10) := HT9.out.trans hga.2
         have HGA := Lib.hid hga.1
         clear hd2 ht2 hga))
  clear k0 d4
  go_wp2_with fail
  refine (shrink_any w0 b g2 _ _ a _ HGA.out).mono ?_
  rintro e w11 ⟨rfl, hg11, ht11⟩
  have HGB := Lib.hid hg11
  have HTB := Lib.hid (HTA.out.trans ht11)
  clear hg11 ht11
  go_wp2_with fail
  go_ret
  exact ⟨rfl, g2, HGB.out, HTB.out⟩
end Go.Proofs.YtdnhgodfmjapmaaGreatDoor
namespace Go.Proofs.YtdnhgodfmjapmaaGreatDoor
open Go.RowKit Go.Deep
theorem find_set {fs : List (ByteArray × FileM)} {a b : ByteArray} (f : FileM) (hab : a ≠ b) : (setF fs b f).find? (fun p => decide (p.1 = a)) = fs.find? (fun p => decide (p.1 = a)) := by
  unfold setF
  induction fs with
  | nil => rfl
  | cons p l ih =>
    rw [List.map_cons]
    by_cases hp : p.1 = b
    · rw [if_pos hp, List.find?_cons_of_neg (by simp [Ne.symm hab]), List.find?_cons_of_neg (by simp [hp, Ne.symm hab]), ih]
    · rw [if_neg hp, List.find?_cons, List.find?_cons, ih]
theorem find_new {fs : List (ByteArray × FileM)} {a b : ByteArray} (f : FileM) (hab : a ≠ b) : (fs ++ [(b, f)]).find? (fun p => decide (p.1 = a)) = fs.find? (fun p => decide (p.1 = a)) := by
  rw [List.find?_append, List.find?_cons_of_neg (by simp [Ne.symm hab])]
  simp
theorem find_burn (st : St) (a : ByteArray) : (burnS st).find a = st.find a := by unfold St.find; rw [burnS_fs]
theorem find_create {st : St} {a b : ByteArray} (hab : a ≠ b) : (createS st b).find a = st.find a := by
  unfold createS
  (repeat' split) <;> first
    | rfl
    | exact find_burn _ _
    | (unfold St.find; simp only; rw [find_new emptyF hab])
theorem find_write {st : St} {a b : ByteArray} {k : Int} {s : ByteArray} (hab : a ≠ b) : (writeS st b k s).find a = st.find a := by
  unfold writeS
  (repeat' split) <;> first
    | rfl
    | exact find_burn _ _
    | (unfold St.find; simp only; rw [find_set _ hab])
theorem find_cut {st : St} {a b : ByteArray} {k : Int} (hab : a ≠ b) : (cutS st b k).find a = st.find a := by
  unfold cutS
  (repeat' split) <;> first
    | rfl
    | exact find_burn _ _
    | (unfold St.find; simp only; rw [find_set _ hab])
theorem find_sync1 {st : St} {a b : ByteArray} (hab : a ≠ b) : (sync1 st b).find a = st.find a := by
  unfold sync1
  split
  · rfl
  · unfold St.find; simp only; rw [find_set _ hab]
theorem find_syncAll {st : St} {a : ByteArray} {ts : List ByteArray} (h : a ∉ ts) : (syncAll st ts).find a = st.find a := by
  unfold syncAll
  induction ts generalizing st with
  | nil => rfl
  | cons t ts ih =>
    rw [List.mem_cons, not_or] at h
    rw [List.foldl_cons, ih h.2, find_sync1 h.1]
theorem names_of (head : ByteArray) (st : St) (L : List ByteArray) (hn : (st.fs.map (·.1)).Nodup) (hL : L.Pairwise fun x y => x.data.toList ≤ y.data.toList) (hLn : L.Nodup)
    (hm : ∀ nm, nm ∈ L ↔ (nm ∈ st.fs.map (·.1) ∧ Lib.hasPrefix nm.data.toList head.data.toList = true)) : namesS head st = L := by
  have h1 : (st.fs.filter fun p => Lib.hasPrefix p.1.data.toList head.data.toList).map (fun p => p.1.data.toList) = ((st.fs.map (·.1)).filter fun nm => Lib.hasPrefix nm.data.toList head.data.toList).map fun nm => nm.data.toList := by
    rw [List.filter_map, List.map_map]
    rfl
  have h2 : (((st.fs.map (·.1)).filter fun nm => Lib.hasPrefix nm.data.toList head.data.toList)).Perm L := by
    rw [List.perm_ext_iff_of_nodup (List.filter_sublist.nodup hn) hLn]
    intro nm
    rw [hm nm, List.mem_filter]
  unfold namesS
  rw [h1]
  have h3 : (((st.fs.map (·.1)).filter fun nm => Lib.hasPrefix nm.data.toList head.data.toList).map fun nm => nm.data.toList).mergeSort (fun x y => decide (x ≤ y)) = (L.map fun nm => nm.data.toList).mergeSort fun x y => decide (x ≤ y) := mergeSort_of_perm (h2.map _)
  rw [h3, List.mergeSort_of_pairwise, List.map_map]
  · exact (List.map_congr_left fun nm _ => by simp).trans (List.map_id L)
  · rw [List.pairwise_map]
    exact hL.imp fun h => decide_eq_true h
theorem names_rise (head : ByteArray) : ∀ (ps : List Nat), ps.Pairwise (· < ·) → (∀ p ∈ ps, p ≤ 99999999) → (ps.map (nameB head)).Pairwise (fun x y => x.data.toList ≤ y.data.toList) ∧ (ps.map (nameB head)).Nodup
  | [], _, _ => ⟨List.Pairwise.nil, List.nodup_nil⟩
  | p :: ps, h, hb => by
    rw [List.pairwise_cons] at h
    obtain ⟨h1, h2⟩ := names_rise head ps h.2 (fun q hq => hb q (List.mem_cons_of_mem _ hq))
    have hp := hb p (List.mem_cons_self ..)
    rw [List.map_cons, List.pairwise_cons, List.nodup_cons]
    refine ⟨⟨fun y hy => ?_, h1⟩, fun hx => ?_, h2⟩
    · obtain ⟨q, hq, rfl⟩ := List.mem_map.1 hy
      exact nameB_le head hp (hb q (List.mem_cons_of_mem _ hq)) (Nat.le_of_lt (h.1 q hq))
    · obtain ⟨q, hq, hx⟩ := List.mem_map.1 hx
      have := nameB_inj head (hb q (List.mem_cons_of_mem _ hq)) hp hx
      have := h.1 q hq
      omega
theorem plS_rise {x z : Nat} (hz : 0 < z) (f u : Nat) (hf : x - u ≤ f) : (plS x z u).Pairwise (· < ·) := by
  induction f generalizing u with
  | zero => rw [plS_done x z u (by omega)]; exact List.Pairwise.nil
  | succ f ih =>
    by_cases hu : u < x
    · rw [plS_step x z u hz hu, List.pairwise_cons]
      refine ⟨fun p hp => ?_, ih (u + z) (by omega)⟩
      have := plS_mem hz x (u + z) (by omega) p hp
      omega
    · rw [plS_done x z u hu]; exact List.Pairwise.nil
def rowAt (head : ByteArray) (z b0 e x : Nat) : RowM := ⟨head, z, b0, e, x, 0, 0⟩
theorem take_next (head : ByteArray) (z b0 u len : Nat) (hu : (u : Int) % z = 0) (hl : len ≤ z) : takeR (rowAt head z b0 u u) false u len = (rowAt head z b0 (u + len) (u + z), false, true) := by
  unfold takeR rowAt
  simp only
  rw [if_neg (by omega), if_neg (by simp), if_neg (by simp)]
  simp
theorem take_first (head : ByteArray) (z u len : Nat) (hu : (u : Int) % z = 0) (hl : len ≤ z) : takeR (newRow head z) true u len = (rowAt head z u (u + len) (u + z), false, true) := by
  unfold takeR newRow rowAt
  simp only
  rw [if_neg (by omega), if_pos (by simp)]
  simp
theorem gath_segs (st : St) (head : ByteArray) (z j e b0 i1 : Nat) (hz : 16 ≤ z) (hj : z * j ≤ 100000000) (he : e ≤ z * j) (he2 : z * j ≤ e + z) (hlen : ∀ i, i1 ≤ i → i < j → st.len (nameB head (z * i)) = min z (e - z * i)) :
    ∀ (k i : Nat), i1 ≤ i → i + k = j → z * i ≤ e → ((plS (z * j) z (z * i)).map (nameB head)).foldl (gathF st) (rowAt head z b0 (if k = 0 then e else z * i) (z * i), false, []) = (rowAt head z b0 e (z * j), false, [])
  | 0, i, h1, hk, hi => by
    obtain rfl : i = j := by omega
    rw [plS_done _ _ _ (Nat.lt_irrefl _)]
    rfl
  | k + 1, i, h1, hk, hi => by
    have hlt : z * i < z * j := Nat.mul_lt_mul_of_pos_left (by omega) (by omega)
    have hs : z * (i + 1) = z * i + z := Nat.mul_succ z i
    have hle : z * (i + 1) ≤ z * j := Nat.mul_le_mul_left z (by omega)
    have hl := hlen i h1 (by omega)
    have hmod : ((z * i : Nat) : Int) % z = 0 := by rw [Int.natCast_mul]; exact Int.mul_emod_right _ _
    rw [plS_step _ _ _ (by omega) hlt, List.map_cons, List.foldl_cons, gathF_at st _ (z * i) (by omega) head rfl, if_neg (by omega)]
    simp only [take_next head z b0 (z * i) _ hmod (show st.len (nameB head (z * i)) ≤ z by omega)]
    rw [if_pos trivial, hl]
    by_cases hk0 : k = 0
    · have hx : z * (i + 1) = z * j := by rw [show i + 1 = j by omega]
      subst hk0
      rw [plS_done _ _ _ (by omega)]
      rw [show z * i + min z (e - z * i) = e by omega, show z * i + z = z * j by omega]
      rfl
    · have h2 : z * (i + 2) ≤ z * j := Nat.mul_le_mul_left z (by omega)
      have h3 : z * (i + 2) = z * i + z + z := by rw [Nat.mul_succ, hs]
      have := gath_segs st head z j e b0 i1 hz hj he he2 hlen k (i + 1) (by omega) (by omega) (by omega)
      rw [if_neg hk0, hs] at this
      rw [show z * i + min z (e - z * i) = z * i + z by omega]
      exact this
theorem gath_own (st : St) (head : ByteArray) (z j e i0 : Nat) (hz : 16 ≤ z) (hj : z * j ≤ 100000000) (he : e ≤ z * j) (he2 : z * j ≤ e + z) (hlen : ∀ i, i0 ≤ i → i < j → st.len (nameB head (z * i)) = min z (e - z * i)) (hi : i0 < j) (hie : z * i0 ≤ e) :
    ((plS (z * j) z (z * i0)).map (nameB head)).foldl (gathF st) (newRow head z, true, []) = (rowAt head z (z * i0) e (z * j), false, []) := by
  have hlt : z * i0 < z * j := Nat.mul_lt_mul_of_pos_left hi (by omega)
  have hs : z * (i0 + 1) = z * i0 + z := Nat.mul_succ z i0
  have hle : z * (i0 + 1) ≤ z * j := Nat.mul_le_mul_left z (by omega)
  have hl := hlen i0 (Nat.le_refl _) hi
  have hmod : ((z * i0 : Nat) : Int) % z = 0 := by rw [Int.natCast_mul]; exact Int.mul_emod_right _ _
  rw [plS_step _ _ _ (by omega) hlt, List.map_cons, List.foldl_cons, gathF_at st _ (z * i0) (by omega) head rfl]
  simp only [take_first head z (z * i0) _ hmod (show st.len (nameB head (z * i0)) ≤ z by omega)]
  rw [if_pos trivial, hl]
  by_cases hk0 : i0 + 1 = j
  · have hx : z * (i0 + 1) = z * j := by rw [hk0]
    rw [plS_done _ _ _ (by omega)]
    rw [show z * i0 + min z (e - z * i0) = e by omega, show z * i0 + z = z * j by omega]
    rfl
  · have h2 : z * (i0 + 2) ≤ z * j := Nat.mul_le_mul_left z (by omega)
    have h3 : z * (i0 + 2) = z * i0 + z + z := by rw [Nat.mul_succ, hs]
    have := gath_segs st head z j e (z * i0) i0 hz hj he he2 hlen (j - (i0 + 1)) (i0 + 1) (by omega) (by omega) (by omega)
    rw [if_neg (by omega), hs] at this
    rw [show z * i0 + min z (e - z * i0) = z * i0 + z by omega]
    exact this
theorem open_own (st : St) (head : ByteArray) (z j e i0 : Nat) (hz : 16 ≤ z) (hj : z * j ≤ 100000000) (he : e ≤ z * j) (he2 : z * j ≤ e + z) (hlen : ∀ i, i0 ≤ i → i < j → st.len (nameB head (z * i)) = min z (e - z * i)) (hi : i0 < j) (hie : z * i0 ≤ e)
    (hn : (st.fs.map (·.1)).Nodup) (hm : ∀ nm, (nm ∈ st.fs.map (·.1) ∧ Lib.hasPrefix nm.data.toList head.data.toList = true) ↔ ∃ p ∈ plS (z * j) z (z * i0), nm = nameB head p) :
    openM st head z = { rowAt head z (z * i0) e (z * j) with synced := ((z * i0 : Nat) : Int), touched := ((z * i0 : Nat) : Int) } ∧ openS st head z = st := by
  have hb : ∀ p ∈ plS (z * j) z (z * i0), p ≤ 99999999 := fun p hp => by
    have := plS_mem (by omega) (z * j) (z * i0) (by omega) p hp
    omega
  obtain ⟨h1, h2⟩ := names_rise head _ (plS_rise (by omega) (z * j) (z * i0) (by omega)) hb
  have hN := names_of head st ((plS (z * j) z (z * i0)).map (nameB head)) hn h1 h2 (fun nm => by
    rw [hm nm, List.mem_map]
    exact ⟨fun ⟨p, hp, hx⟩ => ⟨p, hp, hx.symm⟩, fun ⟨p, hp, hx⟩ => ⟨p, hp, hx.symm⟩⟩)
  have hx : openX st head z = (rowAt head z (z * i0) e (z * j), false, []) := by
    unfold openX gathS
    rw [hN]
    exact gath_own st head z j e i0 hz hj he he2 hlen hi hie
  unfold openM openS
  rw [hx]
  exact ⟨rfl, rfl⟩
structure RowI (n : Nat) (m : RowM) (st : St) (z i0 j e : Nat) : Prop where
  calm : Calm n st
  head : m.head.size ≤ 100
  size : m.size = (z : Int)
  z1 : 16 ≤ z
  z2 : z ≤ 4096
  beg : m.begin_ = ((z * i0 : Nat) : Int)
  end_ : m.end_ = (e : Int)
  next : m.next = ((z * j : Nat) : Int)
  ij : i0 ≤ j
  room : z * j ≤ 99000000
  eb : z * i0 ≤ e
  e1 : e ≤ z * j
  e2 : z * j ≤ e + z
  own : ∀ nm, (nm ∈ st.fs.map (·.1) ∧ Lib.hasPrefix nm.data.toList m.head.data.toList = true) ↔ ∃ p ∈ plS (z * j) z (z * i0), nm = nameB m.head p
  len : ∀ i, i0 ≤ i → i < j → st.len (nameB m.head (z * i)) = min z (e - z * i)
  none : i0 = j → i0 = 0
  t0 : ∃ t : Nat, m.touched = ((z * t : Nat) : Int) ∧ i0 ≤ t ∧ z * t ≤ 99000000
theorem plS_has {z j : Nat} (hz : 0 < z) : ∀ (k i : Nat), i + k = j → ∀ q, i ≤ q → q < j → z * q ∈ plS (z * j) z (z * i)
  | 0, i, hk, q, h1, h2 => by omega
  | k + 1, i, hk, q, h1, h2 => by
    have hlt : z * i < z * j := Nat.mul_lt_mul_of_pos_left (by omega) hz
    rw [plS_step _ _ _ hz hlt]
    by_cases hq : q = i
    · rw [hq]; exact List.mem_cons_self ..
    · have := plS_has hz k (i + 1) (by omega) q (by omega) h2
      rw [Nat.mul_succ] at this
      exact List.mem_cons_of_mem _ this
theorem len_find {st : St} {nm : ByteArray} {k : Nat} (h : nm ∈ st.fs.map (·.1)) (hl : st.len nm = k) : ∃ f, st.find nm = some f ∧ f.bytes.length = k := by
  obtain ⟨p, hp, hx⟩ := List.mem_map.1 h
  have := find_some_mem ⟨p, hp, hx⟩
  obtain ⟨f, hf⟩ := Option.isSome_iff_exists.1 this
  refine ⟨f, hf, ?_⟩
  unfold St.len at hl
  rw [hf] at hl
  exact hl
theorem RowI.file {n : Nat} {m : RowM} {st : St} {z i0 j e : Nat} (h : RowI n m st z i0 j e) {i : Nat} (h1 : i0 ≤ i) (h2 : i < j) : ∃ f, st.find (nameB m.head (z * i)) = some f ∧ f.bytes.length = min z (e - z * i) := by
  have hz := h.z1
  exact len_find ((h.own _).2 ⟨z * i, plS_has (by omega) (j - i0) i0 (by have := h.ij; omega) i h1 h2, rfl⟩).1 (h.len i h1 h2)
theorem RowI.fresh {n : Nat} {m : RowM} {st : St} {z i0 j e : Nat} (h : RowI n m st z i0 j e) : st.find (nameB m.head (z * j)) = .none := by
  have hz := h.z1
  cases hf : st.find (nameB m.head (z * j)) with
  | none => rfl
  | some f =>
    exfalso
    have hm : nameB m.head (z * j) ∈ st.fs.map (·.1) := by
      unfold St.find at hf
      obtain ⟨p, hp, _⟩ := Option.map_eq_some_iff.1 hf
      have h1 := List.mem_of_find?_eq_some hp
      have h2 := List.find?_some hp
      simp only [decide_eq_true_eq] at h2
      exact List.mem_map.2 ⟨p, h1, h2⟩
    obtain ⟨p, hp, hx⟩ := (h.own _).1 ⟨hm, nameB_pre _ _⟩
    have h1 := plS_mem (by omega) (z * j) (z * i0) (by omega) p hp
    have h2 := h.room
    have := nameB_inj m.head (by omega) (by omega) hx
    omega
theorem RowI.rowOk {n : Nat} {m : RowM} {st : St} {z i0 j e : Nat} (h : RowI n m st z i0 j e) : RowOk n m st := by
  have h1 := h.size
  have h2 := h.beg
  have h3 := h.end_
  have h4 := h.next
  have h5 := h.room
  have h6 := h.z1
  have h7 := h.z2
  have h8 := h.e1
  have h9 := h.e2
  refine ⟨h.calm, by omega, by omega, by omega, by omega, by omega, by omega, by have := h.head; omega, fun he => ?_, fun he => ?_⟩
  · rw [show m.next.toNat = z * j by omega]
    exact h.fresh
  · have hne : i0 < j := by
      have := h.ij
      have h10 := h.eb
      refine Nat.lt_of_le_of_ne this fun hx => he ?_
      rw [h3, h4]
      subst hx
      omega
    obtain ⟨q, rfl⟩ : ∃ q, j = q + 1 := ⟨j - 1, by omega⟩
    have hs : z * (q + 1) = z * q + z := Nat.mul_succ z q
    obtain ⟨f, hf, hl⟩ := h.file (i := q) (by omega) (by omega)
    refine ⟨by omega, f, ?_, ?_⟩
    · rw [show (m.next - m.size).toNat = z * q by omega]
      exact hf
    · rw [hl]
      omega
theorem RowI.open_ {n : Nat} {m : RowM} {st : St} {z i0 j e : Nat} (h : RowI n m st z i0 j e) : RowI n (openM st m.head z) st z i0 j e ∧ openS st m.head z = st ∧ (openM st m.head z).head = m.head := by
  have hz := h.z1
  by_cases hij : i0 < j
  · obtain ⟨h1, h2⟩ := open_own st m.head z j e i0 h.z1 (by have := h.room; omega) h.e1 h.e2 h.len hij h.eb h.calm.good.names h.own
    rw [h1]
    exact ⟨⟨h.calm, h.head, rfl, h.z1, h.z2, rfl, rfl, rfl, h.ij, h.room, h.eb, h.e1, h.e2, h.own, h.len, h.none, ⟨i0, rfl, Nat.le_refl _, by have := h.eb; have := h.e1; have := h.room; omega⟩⟩, h2, rfl⟩
  · have hij2 : i0 = j := by have := h.ij; omega
    have hi0 := h.none hij2
    subst hij2
    subst hi0
    have he : e = 0 := by have := h.e1; omega
    subst he
    have hN : namesS m.head st = [] := names_of m.head st [] h.calm.good.names List.Pairwise.nil List.nodup_nil (fun nm => by
      rw [h.own nm, plS_done _ _ _ (by omega)]
      simp)
    have hx : openX st m.head z = (newRow m.head z, true, []) := by
      unfold openX gathS
      rw [hN]
      rfl
    have hM : openM st m.head z = newRow m.head z := by unfold openM; rw [hx]; rfl
    have hS : openS st m.head z = st := by unfold openS; rw [hx]; rfl
    rw [hM]
    exact ⟨⟨h.calm, h.head, rfl, h.z1, h.z2, by simp [newRow], by simp [newRow], by simp [newRow], h.ij, h.room, h.eb, h.e1, h.e2, h.own, h.len, h.none, ⟨0, by simp [newRow], Nat.le_refl _, by omega⟩⟩, hS, rfl⟩
theorem plS_iff {z : Nat} (hz : 0 < z) (i0 j p : Nat) (hij : i0 ≤ j) : p ∈ plS (z * j) z (z * i0) ↔ ∃ i, i0 ≤ i ∧ i < j ∧ p = z * i := by
  constructor
  · have : ∀ (k i : Nat), i + k = j → ∀ p ∈ plS (z * j) z (z * i), ∃ q, i ≤ q ∧ q < j ∧ p = z * q := by
      intro k
      induction k with
      | zero => intro i hk p hp; rw [show i = j by omega, plS_done _ _ _ (by omega)] at hp; cases hp
      | succ k ih =>
        intro i hk p hp
        have hlt : z * i < z * j := Nat.mul_lt_mul_of_pos_left (by omega) hz
        rw [plS_step _ _ _ hz hlt] at hp
        rcases List.mem_cons.1 hp with rfl | hp
        · exact ⟨i, Nat.le_refl _, by omega, rfl⟩
        · rw [← Nat.mul_succ] at hp
          obtain ⟨q, h1, h2, h3⟩ := ih (i + 1) (by omega) p hp
          exact ⟨q, by omega, h2, h3⟩
    exact this (j - i0) i0 (by omega) p
  · rintro ⟨i, h1, h2, rfl⟩
    exact plS_has hz (j - i0) i0 (by omega) i h1 h2
theorem find_set_same {fs : List (ByteArray × FileM)} {a : ByteArray} {f f' : FileM} (h : (fs.find? fun p => decide (p.1 = a)).map (·.2) = some f) : ((setF fs a f').find? fun p => decide (p.1 = a)).map (·.2) = some f' := by
  unfold setF
  induction fs with
  | nil => cases h
  | cons p l ih =>
    rw [List.map_cons]
    by_cases hp : p.1 = a
    · rw [if_pos hp, List.find?_cons_of_pos (by simp)]
      rfl
    · rw [if_neg hp, List.find?_cons_of_neg (by simp [hp])]
      rw [List.find?_cons_of_neg (by simp [hp])] at h
      exact ih h
theorem RowI.append {n : Nat} {m : RowM} {st : St} {z i0 j e : Nat} (h : RowI n m st z i0 j e) (s : ByteArray) (hs0 : s.size ≠ 0) (hs : (s.size : Int) ≤ roomR m) (hcap : s.size ≤ st.cap - st.size) (hroom : z * (j + 1) ≤ 99000000) :
    RowI (n + 2) (appM m s.size) (appS m st s) z i0 (if e = z * j then j + 1 else j) (e + s.size) := by
  have hok := h.rowOk
  obtain ⟨hcalm, hcp, hsz, hl0, hl1, hl2, f, hf, hfl⟩ := hok.pre
  have hw := hcalm.writeS (s := s) hf hfl (by rw [hcp, hsz]; exact hcap) hs0
  have hwc := hcalm.write (s := s) hf hfl (by rw [hcp, hsz]; exact hcap) hs0
  have h1 := h.size
  have h2 := h.beg
  have h3 := h.end_
  have h4 := h.next
  have h5 := h.room
  have h6 := h.z1
  have h7 := h.z2
  have h8 := h.e1
  have h9 := h.e2
  have h10 := h.ij
  have h11 := h.eb
  have hsj : z * (j + 1) = z * j + z := Nat.mul_succ z j
  have hiff : (m.end_ = m.next) ↔ e = z * j := by omega
  -- the last segment
  obtain ⟨q, hq1, hq2, hq3, hq4⟩ : ∃ q, (if e = z * j then j + 1 else j) = q + 1 ∧ (lastOf m).toNat = z * q ∧ i0 ≤ q ∧ (e ≠ z * j → q + 1 = j) ∧ (e = z * j → q = j) := by
    by_cases he : e = z * j
    · refine ⟨j, by rw [if_pos he], ?_, h10, fun hx => absurd he hx, fun _ => rfl⟩
      unfold lastOf pm
      rw [if_pos (hiff.2 he)]
      simp only
      omega
    · have hlt : i0 < j := Nat.lt_of_le_of_ne h10 fun hx => he (by subst hx; omega)
      refine ⟨j - 1, by rw [if_neg he]; omega, ?_, by omega, fun _ => by omega, fun hx => absurd hx he⟩
      unfold lastOf pm
      rw [if_neg (fun hx => he (hiff.1 hx)), h4, h1]
      have : z * (j - 1 + 1) = z * (j - 1) + z := Nat.mul_succ z (j - 1)
      rw [show j - 1 + 1 = j by omega] at this
      omega
  obtain ⟨hq4, hq5⟩ := hq4
  have hsq : z * (q + 1) = z * q + z := Nat.mul_succ z q
  have hqj : q + 1 ≤ j + 1 := by by_cases he : e = z * j; have := hq5 he; omega; have := hq4 he; omega
  have hqb : z * (q + 1) ≤ z * (j + 1) := Nat.mul_le_mul_left z hqj
  have hla : lastOf m = ((z * q : Nat) : Int) := by omega
  have hpm : (pm m).head = m.head ∧ (pm m).size = m.size ∧ (pm m).begin_ = m.begin_ := by unfold pm; split <;> exact ⟨rfl, rfl, rfl⟩
  have hpn : (pm m).next = ((z * (q + 1) : Nat) : Int) := by
    have : lastOf m = (pm m).next - (pm m).size := rfl
    rw [hpm.2.1, h1] at this
    omega
  have hflen : f.bytes.length = e - z * q := by omega
  have hsr : s.size ≤ z - (e - z * q) := by
    unfold roomR at hs
    by_cases he : e = z * j
    · rw [if_pos (hiff.2 he)] at hs
      have := hq5 he
      subst this
      omega
    · rw [if_neg (fun hx => he (hiff.1 hx))] at hs
      have := hq4 he
      rw [this] at hsq
      omega
  have hnamesP : ∀ nm, nm ∈ (ps m st).fs.map (·.1) ↔ nm ∈ st.fs.map (·.1) ∨ (e = z * j ∧ nm = nameB m.head (z * j)) := by
    intro nm
    unfold ps
    by_cases he : e = z * j
    · rw [if_pos (hiff.2 he), h.calm.createS (hok.fresh (hiff.2 he)), show m.next.toNat = z * j by omega]
      simp [he]
    · rw [if_neg (fun hx => he (hiff.1 hx))]
      simp [he]
  have hnames : ∀ nm, nm ∈ (appS m st s).fs.map (·.1) ↔ nm ∈ st.fs.map (·.1) ∨ (e = z * j ∧ nm = nameB m.head (z * j)) := by
    intro nm
    rw [← hnamesP nm]
    unfold appS
    rw [hw]
    simp only
    rw [names_setF]
  have hfindP : ∀ i, i ≠ q → i < q + 1 → (ps m st).find (nameB m.head (z * i)) = st.find (nameB m.head (z * i)) := by
    intro i hi hi2
    unfold ps
    by_cases he : e = z * j
    · rw [if_pos (hiff.2 he), show m.next.toNat = z * j by omega]
      refine find_create fun hx => hi ?_
      have hle : z * i ≤ z * q := Nat.mul_le_mul_left z (by omega)
      have := nameB_inj m.head (by omega) (by omega) hx
      rw [hq5 he]
      exact Nat.eq_of_mul_eq_mul_left (by omega) this
    · rw [if_neg (fun hx => he (hiff.1 hx))]
  have hlen : ∀ i, i0 ≤ i → i < q + 1 → (appS m st s).len (nameB m.head (z * i)) = min z (e + s.size - z * i) := by
    intro i hi1 hi2
    have hle : z * i ≤ z * q := Nat.mul_le_mul_left z (by omega)
    by_cases hi : i = q
    · subst hi
      have : (appS m st s).find (nameB m.head (z * i)) = some (addF f ⟨((ps m st).turn : Int) + 1, (m.end_ - lastOf m).toNat, s⟩) := by
        unfold appS
        rw [hw, hq2]
        unfold St.find
        simp only
        refine find_set_same (f := f) ?_
        rw [hq2] at hf
        exact hf
      unfold St.len
      rw [this]
      simp only
      have hb : (addF f ⟨((ps m st).turn : Int) + 1, (m.end_ - lastOf m).toNat, s⟩).bytes = f.bytes ++ s.data.toList := by
        rw [show (m.end_ - lastOf m).toNat = f.bytes.length by omega]
        exact putB_end _ _
      rw [hb, List.length_append, size_toList]
      omega
    · have h12 : (appS m st s).find (nameB m.head (z * i)) = st.find (nameB m.head (z * i)) := by
        rw [← hfindP i hi hi2]
        unfold appS
        refine find_write fun hx => hi ?_
        rw [hq2] at hx
        have := nameB_inj m.head (by omega) (by omega) hx
        exact Nat.eq_of_mul_eq_mul_left (by omega) this
      have hij : i < j := by by_cases he : e = z * j; have := hq5 he; omega; have := hq4 he; omega
      have h13 := h.len i hi1 hij
      unfold St.len at h13 ⊢
      rw [h12, h13]
      have hle2 : z * (i + 1) ≤ z * q := Nat.mul_le_mul_left z (by omega)
      have hsi : z * (i + 1) = z * i + z := Nat.mul_succ z i
      omega
  rw [hq1]
  refine ⟨hwc, by show (pm m).head.size ≤ 100; rw [hpm.1]; exact h.head, hpm.2.1.trans h1, h6, h7, hpm.2.2.trans h2, by show m.end_ + (s.size : Int) = _; omega, hpn, by omega, by omega, by omega, by omega, by omega, fun nm => ?_, ?_, fun hx => by omega, ?_⟩
  · show (nm ∈ (appS m st s).fs.map (·.1) ∧ Lib.hasPrefix nm.data.toList (pm m).head.data.toList = true) ↔ ∃ p ∈ plS (z * (q + 1)) z (z * i0), nm = nameB (pm m).head p
    rw [hpm.1, hnames nm]
    have hown := h.own nm
    constructor
    · rintro ⟨h12 | ⟨h12, rfl⟩, h13⟩
      · obtain ⟨p, hp, rfl⟩ := hown.1 ⟨h12, h13⟩
        obtain ⟨i, a1, a2, rfl⟩ := (plS_iff (by omega) i0 j p h10).1 hp
        refine ⟨z * i, (plS_iff (by omega) i0 (q + 1) _ (by omega)).2 ⟨i, a1, ?_, rfl⟩, rfl⟩
        by_cases he : e = z * j
        · have := hq5 he; omega
        · have := hq4 he; omega
      · have := hq5 h12
        exact ⟨z * j, (plS_iff (by omega) i0 (q + 1) _ (by omega)).2 ⟨j, h10, by omega, rfl⟩, rfl⟩
    · rintro ⟨p, hp, rfl⟩
      obtain ⟨i, a1, a2, rfl⟩ := (plS_iff (by omega) i0 (q + 1) p (by omega)).1 hp
      refine ⟨?_, nameB_pre _ _⟩
      by_cases hij : i < j
      · exact .inl (hown.2 ⟨z * i, (plS_iff (by omega) i0 j _ h10).2 ⟨i, a1, hij, rfl⟩, rfl⟩).1
      · by_cases he : e = z * j
        · have := hq5 he
          exact .inr ⟨he, by rw [show i = j by omega]⟩
        · have := hq4 he
          omega
  · show ∀ i, i0 ≤ i → i < q + 1 → (appS m st s).len (nameB (pm m).head (z * i)) = _
    rw [hpm.1]
    exact hlen
  · obtain ⟨t, t1, t2, t3⟩ := h.t0
    by_cases htq : t ≤ q
    · refine ⟨t, ?_, t2, by omega⟩
      show min m.touched (lastOf m) = _
      have : z * t ≤ z * q := Nat.mul_le_mul_left z htq
      omega
    · refine ⟨q, ?_, hq3, by omega⟩
      show min m.touched (lastOf m) = _
      have : z * q ≤ z * t := Nat.mul_le_mul_left z (by omega)
      omega
theorem RowI.keep {n n' : Nat} {m : RowM} {st st' : St} {z i0 j e : Nat} (h : RowI n m st z i0 j e) (hc : Calm n' st') (hm : ∀ nm, Lib.hasPrefix nm.data.toList m.head.data.toList = true → (nm ∈ st'.fs.map (·.1) ↔ nm ∈ st.fs.map (·.1)))
    (hl : ∀ i, i0 ≤ i → i < j → st'.len (nameB m.head (z * i)) = st.len (nameB m.head (z * i))) : RowI n' m st' z i0 j e :=
  ⟨hc, h.head, h.size, h.z1, h.z2, h.beg, h.end_, h.next, h.ij, h.room, h.eb, h.e1, h.e2, fun nm => by
    rw [← h.own nm]
    exact ⟨fun ⟨a, b⟩ => ⟨(hm nm b).1 a, b⟩, fun ⟨a, b⟩ => ⟨(hm nm b).2 a, b⟩⟩, fun i a b => (hl i a b).trans (h.len i a b), h.none, h.t0⟩
theorem len_sync1 (st : St) (t nm : ByteArray) : (sync1 st t).len nm = st.len nm := by
  by_cases ht : nm = t
  · subst ht
    unfold sync1
    cases hf : st.find nm with
    | none => rfl
    | some f =>
      unfold St.len
      rw [hf]
      have : ({ st with fs := setF st.fs nm (syncF f) } : St).find nm = some (syncF f) := by
        unfold St.find
        exact find_set_same (f := f) (by unfold St.find at hf; exact hf)
      simp only [this]
      rfl
  · unfold St.len
    rw [find_sync1 ht]
theorem names_sync1 (st : St) (t : ByteArray) : (sync1 st t).fs.map (·.1) = st.fs.map (·.1) := by
  unfold sync1
  split
  · rfl
  · exact names_setF _ _ _
theorem syncAll_same (st : St) (ts : List ByteArray) : (syncAll st ts).fs.map (·.1) = st.fs.map (·.1) ∧ ∀ nm, (syncAll st ts).len nm = st.len nm := by
  unfold syncAll
  induction ts generalizing st with
  | nil => exact ⟨rfl, fun _ => rfl⟩
  | cons t ts ih =>
    obtain ⟨h1, h2⟩ := ih (sync1 st t)
    exact ⟨h1.trans (names_sync1 st t), fun nm => (h2 nm).trans (len_sync1 st t nm)⟩
theorem RowI.found {n : Nat} {m : RowM} {st : St} {z i0 j e : Nat} (h : RowI n m st z i0 j e) (u : Nat) (hu : ∃ t : Nat, u = z * t ∧ i0 ≤ t) : ∀ t ∈ rowNames m u, (st.find t).isSome = true := by
  obtain ⟨t, rfl, h1⟩ := hu
  have hz := h.z1
  have hs := h.size
  have hn := h.next
  unfold rowNames
  rw [show m.next.toNat = z * j by omega, show m.size.toNat = z by omega]
  intro x hx
  by_cases h2 : j < t
  · have : z * j ≤ z * t := Nat.mul_le_mul_left z (by omega)
    rw [plS_done _ _ _ (by omega)] at hx
    cases hx
  replace h2 : t ≤ j := by omega
  obtain ⟨p, hp, rfl⟩ := List.mem_map.1 hx
  obtain ⟨i, a1, a2, rfl⟩ := (plS_iff (by omega) t j p h2).1 hp
  obtain ⟨f, hf, _⟩ := h.file (i := i) (by omega) a2
  rw [hf]
  rfl
theorem RowI.sync {n : Nat} {m : RowM} {st : St} {z i0 j e : Nat} (h : RowI n m st z i0 j e) (u : Nat) : RowI n (syncedM m) (syncAll st (rowNames m u)) z i0 j e := by
  obtain ⟨h1, h2⟩ := syncAll_same st (rowNames m u)
  have hk := h.keep (h.calm.sync (rowNames m u)) (fun nm _ => by rw [h1]) (fun i _ _ => h2 _)
  exact ⟨hk.calm, hk.head, hk.size, hk.z1, hk.z2, hk.beg, hk.end_, hk.next, hk.ij, hk.room, hk.eb, hk.e1, hk.e2, hk.own, hk.len, hk.none, ⟨j, hk.next, hk.ij, hk.room⟩⟩
theorem names_remove (st : St) (t nm : ByteArray) : nm ∈ (removeS st t).fs.map (·.1) ↔ nm ∈ st.fs.map (·.1) ∧ nm ≠ t := by
  unfold removeS dropF
  simp only
  constructor
  · intro h
    obtain ⟨p, hp, rfl⟩ := List.mem_map.1 h
    obtain ⟨h1, h2⟩ := List.mem_filter.1 hp
    exact ⟨List.mem_map_of_mem h1, by simpa using h2⟩
  · rintro ⟨h1, h2⟩
    obtain ⟨p, hp, rfl⟩ := List.mem_map.1 h1
    exact List.mem_map.2 ⟨p, List.mem_filter.2 ⟨hp, by simpa using h2⟩, rfl⟩
theorem names_deleteAll (ts : List ByteArray) : ∀ (st : St) (nm : ByteArray), nm ∈ (deleteAll st ts).fs.map (·.1) ↔ nm ∈ st.fs.map (·.1) ∧ nm ∉ ts := by
  induction ts with
  | nil => intro st nm; simp [deleteAll]
  | cons t ts ih =>
    intro st nm
    have : deleteAll st (t :: ts) = deleteAll (removeS st t) ts := rfl
    rw [this, ih, names_remove, List.mem_cons, not_or, and_assoc]
theorem RowI.drop {n : Nat} {m : RowM} {st : St} {z i0 j e : Nat} (h : RowI n m st z i0 j e) (hij : i0 + 1 < j) : RowI n (dropM m) (deleteAll st [nameB m.head m.begin_.toNat]) z (i0 + 1) j e := by
  have h1 := h.size
  have h2 := h.beg
  have h4 := h.next
  have h5 := h.room
  have h6 := h.z1
  have h9 := h.e2
  have hs0 : z * (i0 + 1) = z * i0 + z := Nat.mul_succ z i0
  have hs1 : z * (i0 + 2) = z * (i0 + 1) + z := Nat.mul_succ z (i0 + 1)
  have hle : z * (i0 + 2) ≤ z * j := Nat.mul_le_mul_left z (by omega)
  rw [show m.begin_.toNat = z * i0 by omega]
  have hne : ∀ i, i0 + 1 ≤ i → i < j → nameB m.head (z * i) ≠ nameB m.head (z * i0) := fun i a1 a2 hx => by
    have l1 : z * i ≤ z * j := Nat.mul_le_mul_left z (by omega)
    have := nameB_inj m.head (by omega) (by omega) hx
    have := Nat.eq_of_mul_eq_mul_left (show 0 < z by omega) this
    omega
  refine ⟨h.calm.delete _, h.head, h1, h6, h.z2, by show m.begin_ + m.size = _; omega, h.end_, h4, by omega, h5, by omega, h.e1, h9, fun nm => ?_, fun i a1 a2 => ?_, fun hx => by omega, ?_⟩
  · show (nm ∈ (deleteAll st [nameB m.head (z * i0)]).fs.map (·.1) ∧ _) ↔ ∃ p ∈ plS (z * j) z (z * (i0 + 1)), nm = nameB m.head p
    rw [names_deleteAll]
    constructor
    · rintro ⟨⟨a1, a2⟩, a3⟩
      obtain ⟨p, hp, rfl⟩ := (h.own nm).1 ⟨a1, a3⟩
      obtain ⟨i, b1, b2, rfl⟩ := (plS_iff (by omega) i0 j p (by omega)).1 hp
      have : i ≠ i0 := fun hx => a2 (by rw [hx]; simp)
      exact ⟨z * i, (plS_iff (by omega) (i0 + 1) j _ (by omega)).2 ⟨i, by omega, b2, rfl⟩, rfl⟩
    · rintro ⟨p, hp, rfl⟩
      obtain ⟨i, b1, b2, rfl⟩ := (plS_iff (by omega) (i0 + 1) j p (by omega)).1 hp
      obtain ⟨a1, a3⟩ := (h.own _).2 ⟨z * i, (plS_iff (by omega) i0 j _ (by omega)).2 ⟨i, by omega, b2, rfl⟩, rfl⟩
      exact ⟨⟨a1, by simpa using hne i b1 b2⟩, a3⟩
  · show (deleteAll st [nameB m.head (z * i0)]).len (nameB m.head (z * i)) = _
    have hf : (deleteAll st [nameB m.head (z * i0)]).find (nameB m.head (z * i)) = st.find (nameB m.head (z * i)) := find_deleteAll (by simpa using hne i a1 a2)
    have := h.len i (by omega) a2
    unfold St.len at this ⊢
    rw [hf]
    exact this
  · obtain ⟨t, t1, t2, t3⟩ := h.t0
    by_cases ht : i0 + 1 ≤ t
    · have : z * (i0 + 1) ≤ z * t := Nat.mul_le_mul_left z ht
      exact ⟨t, by show max m.touched (m.begin_ + m.size) = _; omega, ht, t3⟩
    · have : z * t ≤ z * (i0 + 1) := Nat.mul_le_mul_left z (by omega)
      exact ⟨i0 + 1, by show max m.touched (m.begin_ + m.size) = _; omega, Nat.le_refl _, by omega⟩
theorem RowI.from_ {n : Nat} {m : RowM} {st : St} {z i0 j e : Nat} (h : RowI n m st z i0 j e) (a : Nat) : ∃ k, fromM m a = ((z * k : Nat) : Int) ∧ i0 + 1 ≤ k ∧ a ≤ z * k ∧ (k = i0 + 1 ∨ z * k < a + z) := by
  have h1 := h.size
  have h2 := h.beg
  have h6 := h.z1
  obtain ⟨c, hc⟩ : ∃ c, c = (a + z - 1) / z := ⟨_, rfl⟩
  have hd := Nat.div_add_mod (a + z - 1) z
  have hm := Nat.mod_lt (a + z - 1) (show 0 < z by omega)
  rw [← hc] at hd
  have hs0 : z * (i0 + 1) = z * i0 + z := Nat.mul_succ z i0
  have hpl : ((a : Int) + m.size - 1) - ((a : Int) + m.size - 1) % m.size = ((z * c : Nat) : Int) := by
    rw [h1, show ((a : Int) + (z : Int) - 1) = ((a + z - 1 : Nat) : Int) by omega, ← Int.natCast_emod]
    omega
  unfold fromM
  rw [hpl]
  by_cases hk : c ≤ i0 + 1
  · have : z * c ≤ z * (i0 + 1) := Nat.mul_le_mul_left z hk
    exact ⟨i0 + 1, by omega, Nat.le_refl _, by omega, .inl rfl⟩
  · have : z * (i0 + 1) ≤ z * c := Nat.mul_le_mul_left z (by omega)
    exact ⟨c, by omega, by omega, by omega, .inr (by omega)⟩
theorem RowI.leave {n : Nat} {m : RowM} {st : St} {z i0 j e : Nat} (h : RowI n m st z i0 j e) (k : Nat) (hk0 : i0 + 1 ≤ k) (hkj : k < j) (sy : Int) :
    RowI n { m with next := ((z * k : Nat) : Int), end_ := ((z * k : Nat) : Int), synced := sy } (deleteAll st (rowNames m (z * k))) z i0 k (z * k) := by
  have h1 := h.size
  have h4 := h.next
  have h5 := h.room
  have h6 := h.z1
  have hle : z * k ≤ z * j := Nat.mul_le_mul_left z (by omega)
  have hle0 : z * i0 ≤ z * k := Nat.mul_le_mul_left z (by omega)
  have hnm : ∀ nm, nm ∈ rowNames m (z * k) ↔ ∃ i, k ≤ i ∧ i < j ∧ nm = nameB m.head (z * i) := fun nm => by
    unfold rowNames
    rw [show m.next.toNat = z * j by omega, show m.size.toNat = z by omega, List.mem_map]
    constructor
    · rintro ⟨p, hp, rfl⟩
      obtain ⟨i, a1, a2, rfl⟩ := (plS_iff (by omega) k j p (by omega)).1 hp
      exact ⟨i, a1, a2, rfl⟩
    · rintro ⟨i, a1, a2, rfl⟩
      exact ⟨z * i, (plS_iff (by omega) k j _ (by omega)).2 ⟨i, a1, a2, rfl⟩, rfl⟩
  have hne : ∀ i, i < k → nameB m.head (z * i) ∉ rowNames m (z * k) := fun i a1 hx => by
    obtain ⟨q, b1, b2, hx⟩ := (hnm _).1 hx
    have l1 : z * i ≤ z * j := Nat.mul_le_mul_left z (by omega)
    have l2 : z * q ≤ z * j := Nat.mul_le_mul_left z (by omega)
    have := nameB_inj m.head (by omega) (by omega) hx
    have := Nat.eq_of_mul_eq_mul_left (show 0 < z by omega) this
    omega
  refine ⟨h.calm.delete _, h.head, h1, h6, h.z2, h.beg, rfl, rfl, by omega, by omega, hle0, Nat.le_refl _, by omega, fun nm => ?_, fun i a1 a2 => ?_, fun hx => by omega, ?_⟩
  · show (nm ∈ (deleteAll st (rowNames m (z * k))).fs.map (·.1) ∧ _) ↔ ∃ p ∈ plS (z * k) z (z * i0), nm = nameB m.head p
    rw [names_deleteAll]
    constructor
    · rintro ⟨⟨a1, a2⟩, a3⟩
      obtain ⟨p, hp, rfl⟩ := (h.own nm).1 ⟨a1, a3⟩
      obtain ⟨i, b1, b2, rfl⟩ := (plS_iff (by omega) i0 j p h.ij).1 hp
      have : i < k := Nat.lt_of_not_le fun hx => a2 ((hnm _).2 ⟨i, hx, b2, rfl⟩)
      exact ⟨z * i, (plS_iff (by omega) i0 k _ (by omega)).2 ⟨i, b1, this, rfl⟩, rfl⟩
    · rintro ⟨p, hp, rfl⟩
      obtain ⟨i, b1, b2, rfl⟩ := (plS_iff (by omega) i0 k p (by omega)).1 hp
      obtain ⟨a1, a3⟩ := (h.own _).2 ⟨z * i, (plS_iff (by omega) i0 j _ h.ij).2 ⟨i, b1, by omega, rfl⟩, rfl⟩
      exact ⟨⟨a1, hne i b2⟩, a3⟩
  · show (deleteAll st (rowNames m (z * k))).len (nameB m.head (z * i)) = _
    have hf : (deleteAll st (rowNames m (z * k))).find (nameB m.head (z * i)) = st.find (nameB m.head (z * i)) := find_deleteAll (hne i a2)
    have h9 := h.e2
    have h13 := h.len i a1 (by omega)
    have l1 : z * (i + 1) ≤ z * k := Nat.mul_le_mul_left z (by omega)
    have l2 : z * (i + 1) = z * i + z := Nat.mul_succ z i
    have l3 : z * (k + 1) ≤ z * j := Nat.mul_le_mul_left z (by omega)
    have l4 : z * (k + 1) = z * k + z := Nat.mul_succ z k
    unfold St.len at h13 ⊢
    rw [hf, h13]
    omega
  · exact h.t0
theorem Calm.cutS {n : Nat} {st : St} (h : Calm n st) {nm : ByteArray} {f : FileM} {k : Int} (hf : st.find nm = some f) (h0 : 0 ≤ k) (h1 : k ≤ f.bytes.length) : Go.Proofs.YtdnhgodfmjapmaaGreatDoor.cutS st nm k = { st with size := st.size - (f.bytes.length - k.toNat), fs := setF st.fs nm (cutF f k.toNat) } := by
  unfold Go.Proofs.YtdnhgodfmjapmaaGreatDoor.cutS
  rw [if_neg (by rw [h.down]; simp), hf]
  simp only
  rw [if_neg (by omega), if_pos h.burnE, h.burnS]
theorem Calm.cut {n : Nat} {st : St} (h : Calm n st) {nm : ByteArray} {f : FileM} {k : Int} (hf : st.find nm = some f) (h0 : 0 ≤ k) (h1 : k ≤ f.bytes.length) : Calm n (Go.Proofs.YtdnhgodfmjapmaaGreatDoor.cutS st nm k) := by
  have hg := h.good.cut nm k
  refine ⟨hg, ?_, ?_⟩
  · rw [h.cutS hf h0 h1]; exact h.lit
  · rw [h.cutS hf h0 h1]; exact h.down
theorem RowI.cut {n : Nat} {m : RowM} {st : St} {z i0 q e : Nat} (h : RowI n m st z i0 (q + 1) e) (a : Nat) (ha0 : z * q ≤ a) (ha1 : a ≤ e) (hq : i0 ≤ q) :
    RowI n (shrinkM m a) (cutS st (nameB m.head (z * q)) ((a : Int) - ((z * q : Nat) : Int))) z i0 (q + 1) a := by
  have h1 := h.size
  have h5 := h.room
  have h6 := h.z1
  have h8 := h.e1
  have hsq : z * (q + 1) = z * q + z := Nat.mul_succ z q
  have hle0 : z * i0 ≤ z * q := Nat.mul_le_mul_left z hq
  obtain ⟨f, hf, hfl⟩ := h.file (i := q) hq (by omega)
  have hk0 : (0 : Int) ≤ (a : Int) - ((z * q : Nat) : Int) := by omega
  have hk1 : (a : Int) - ((z * q : Nat) : Int) ≤ f.bytes.length := by omega
  have hcs := h.calm.cutS hf hk0 hk1
  rw [show ((a : Int) - ((z * q : Nat) : Int)).toNat = a - z * q by omega] at hcs
  have hcl := h.calm.cut hf hk0 hk1
  refine ⟨hcl, h.head, h1, h6, h.z2, h.beg, rfl, h.next, h.ij, h5, by omega, by omega, by omega, fun nm => ?_, fun i a1 a2 => ?_, h.none, h.t0⟩
  · show (nm ∈ (cutS st (nameB m.head (z * q)) _).fs.map (·.1) ∧ _) ↔ _
    rw [hcs]
    simp only
    rw [names_setF]
    exact h.own nm
  · show (cutS st (nameB m.head (z * q)) _).len (nameB m.head (z * i)) = _
    by_cases hi : i = q
    · subst hi
      have hfind : (cutS st (nameB m.head (z * i)) ((a : Int) - ((z * i : Nat) : Int))).find (nameB m.head (z * i)) = some (cutF f (a - z * i)) := by
        rw [hcs]
        unfold St.find
        exact find_set_same (f := f) hf
      unfold St.len
      rw [hfind]
      simp only
      have : (cutF f (a - z * i)).bytes.length = a - z * i := by
        unfold cutF
        simp [List.length_take]
        omega
      rw [this]
      omega
    · have hle : z * (i + 1) ≤ z * q := Nat.mul_le_mul_left z (by omega)
      have hsi : z * (i + 1) = z * i + z := Nat.mul_succ z i
      have hne : nameB m.head (z * i) ≠ nameB m.head (z * q) := fun hx => by
        have := nameB_inj m.head (by omega) (by omega) hx
        exact hi (Nat.eq_of_mul_eq_mul_left (by omega) this)
      have h13 := h.len i a1 a2
      unfold St.len at h13 ⊢
      rw [find_cut hne, h13]
      omega
def Others (head : ByteArray) (st st' : St) : Prop := ∀ nm : ByteArray, Lib.hasPrefix nm.data.toList head.data.toList = false → st'.find nm = st.find nm
theorem Others.refl (head : ByteArray) (st : St) : Others head st st := fun _ _ => rfl
theorem Others.trans {head : ByteArray} {a b c : St} (h : Others head a b) (k : Others head b c) : Others head a c := fun nm hn => (k nm hn).trans (h nm hn)
theorem ne_nameB {head nm : ByteArray} {p : Nat} (h : Lib.hasPrefix nm.data.toList head.data.toList = false) : nm ≠ nameB head p := by
  rintro rfl
  rw [nameB_pre] at h
  cases h
theorem has_find {st : St} {nm : ByteArray} : nm ∈ st.fs.map (·.1) ↔ (st.find nm).isSome = true := by
  constructor
  · intro h
    obtain ⟨p, hp, hx⟩ := List.mem_map.1 h
    exact find_some_mem ⟨p, hp, hx⟩
  · intro h
    obtain ⟨f, hf⟩ := Option.isSome_iff_exists.1 h
    have := find_mem hf
    exact List.mem_map.2 ⟨_, this, rfl⟩
theorem Others.app {m : RowM} {st : St} {s : ByteArray} : Others m.head st (appS m st s) := fun nm hn => by
  unfold appS
  rw [find_write (ne_nameB hn)]
  unfold ps
  split
  · exact find_create (ne_nameB hn)
  · rfl
theorem not_rowNames {m : RowM} {u : Nat} {nm : ByteArray} (hn : Lib.hasPrefix nm.data.toList m.head.data.toList = false) : nm ∉ rowNames m u := fun hx => by
  obtain ⟨p, _, h⟩ := List.mem_map.1 hx
  exact ne_nameB hn h.symm
theorem Others.sync {m : RowM} {st : St} {u : Nat} : Others m.head st (syncAll st (rowNames m u)) := fun nm hn => find_syncAll (not_rowNames hn)
theorem Others.delete {m : RowM} {st : St} {u : Nat} : Others m.head st (deleteAll st (rowNames m u)) := fun nm hn => find_deleteAll (not_rowNames hn)
theorem Others.cut {head : ByteArray} {st : St} {p : Nat} {k : Int} : Others head st (cutS st (nameB head p) k) := fun nm hn => find_cut (ne_nameB hn)
theorem deleteAll_size (ts : List ByteArray) : ∀ st : St, (deleteAll st ts).size ≤ st.size := by
  induction ts with
  | nil => intro st; exact Nat.le_refl _
  | cons t ts ih =>
    intro st
    refine Nat.le_trans (ih (removeS st t)) ?_
    show st.size - st.len t ≤ st.size
    omega
theorem deleteAll_sub (ts : List ByteArray) : ∀ st : St, ∀ p ∈ (deleteAll st ts).fs, p ∈ st.fs := by
  induction ts with
  | nil => intro st p hp; exact hp
  | cons t ts ih =>
    intro st p hp
    have := ih (removeS st t) p hp
    exact (List.mem_filter.1 this).1
theorem syncAll_size (ts : List ByteArray) : ∀ st : St, (syncAll st ts).size = st.size ∧ (syncAll st ts).cap = st.cap := by
  induction ts with
  | nil => intro st; exact ⟨rfl, rfl⟩
  | cons t ts ih =>
    intro st
    obtain ⟨h1, h2⟩ := ih (sync1 st t)
    have : (sync1 st t).size = st.size ∧ (sync1 st t).cap = st.cap := by unfold sync1; split <;> exact ⟨rfl, rfl⟩
    exact ⟨h1.trans this.1, h2.trans this.2⟩
theorem names_le_of {st st' : St} (h : ∀ nm ∈ st'.fs.map (·.1), nm ∈ st.fs.map (·.1)) (hn : ∀ p ∈ st.fs, p.1.size ≤ 1048576) : ∀ p ∈ st'.fs, p.1.size ≤ 1048576 := fun p hp => by
  obtain ⟨q, hq, hx⟩ := List.mem_map.1 (h _ (List.mem_map_of_mem hp))
  rw [← hx]
  exact hn q hq
structure RowK (n : Nat) (m : RowM) (st : St) (z i0 j : Nat) (all : List UInt8) : Prop where
  row : RowI n m st z i0 j (z * i0 + all.length)
  ch : ∀ i, i0 ≤ i → i < j → ∃ f, st.find (nameB m.head (z * i)) = some f ∧ f.bytes = (all.drop (z * i - z * i0)).take z
  tight : i0 + 1 < j → z * (j - 1) < z * i0 + all.length
  cap : st.cap = 1048576
  size : st.size ≤ 4096 * n
  en : z * i0 + all.length ≤ 4096 * n
  nm : ∀ p ∈ st.fs, p.1.size ≤ 1048576
theorem Calm.more {n n' : Nat} {st : St} (h : Calm n st) (hn : n ≤ n') : Calm n' st := ⟨h.good.more hn, h.lit, h.down⟩
theorem RowI.more {n n' : Nat} {m : RowM} {st : St} {z i0 j e : Nat} (h : RowI n m st z i0 j e) (hn : n ≤ n') : RowI n' m st z i0 j e := { h with calm := h.calm.more hn }
theorem RowK.more {n n' : Nat} {m : RowM} {st : St} {z i0 j : Nat} {all : List UInt8} (h : RowK n m st z i0 j all) (hn : n ≤ n') : RowK n' m st z i0 j all :=
  ⟨h.row.more hn, h.ch, h.tight, h.cap, Nat.le_trans h.size (Nat.mul_le_mul_left _ hn), Nat.le_trans h.en (Nat.mul_le_mul_left _ hn), h.nm⟩
theorem RowK.keep {n n' : Nat} {m : RowM} {st st' : St} {z i0 j : Nat} {all : List UInt8} (h : RowK n m st z i0 j all) (hn : n ≤ n') (hc : Calm n' st') (hcap : st'.cap = 1048576) (hs : st'.size ≤ 4096 * n') (hnm : ∀ p ∈ st'.fs, p.1.size ≤ 1048576) {head : ByteArray} (ho : Others head st st')
    (hu : ∀ nm : ByteArray, Lib.hasPrefix nm.data.toList m.head.data.toList = true → Lib.hasPrefix nm.data.toList head.data.toList = false) : RowK n' m st' z i0 j all := by
  have hf : ∀ nm : ByteArray, Lib.hasPrefix nm.data.toList m.head.data.toList = true → st'.find nm = st.find nm := fun nm hp => ho nm (hu nm hp)
  refine ⟨(h.row.keep (n' := n') hc (fun nm hp => ?_) (fun i _ _ => ?_)), fun i h1 h2 => ?_, h.tight, hcap, hs, Nat.le_trans h.en (Nat.mul_le_mul_left _ hn), hnm⟩
  · rw [has_find, has_find, hf nm hp]
  · unfold St.len
    rw [hf _ (nameB_pre _ _)]
  · rw [hf _ (nameB_pre _ _)]
    exact h.ch i h1 h2
theorem RowI.room_eq {n : Nat} {m : RowM} {st : St} {z i0 j e : Nat} (h : RowI n m st z i0 j e) : roomR m = (z : Int) - ((e % z : Nat) : Int) ∧ (e % z) < z := by
  have h1 := h.size
  have h3 := h.end_
  have h4 := h.next
  have h6 := h.z1
  have h8 := h.e1
  have h9 := h.e2
  have hm := Nat.mod_lt e (show 0 < z by omega)
  refine ⟨?_, hm⟩
  unfold roomR
  by_cases he : e = z * j
  · rw [if_pos (by omega), he, Nat.mul_mod_right]
    omega
  · rw [if_neg (by omega)]
    have hj : j ≠ 0 := fun hx => he (by subst hx; omega)
    obtain ⟨q, rfl⟩ : ∃ q, j = q + 1 := ⟨j - 1, by omega⟩
    have hs : z * (q + 1) = z * q + z := Nat.mul_succ z q
    have : e % z = e - z * q := by
      obtain ⟨r, hr⟩ : ∃ r, e = z * q + r := ⟨e - z * q, by omega⟩
      rw [hr, Nat.mul_add_mod, Nat.mod_eq_of_lt (by omega)]
      omega
    omega
theorem RowI.append_find {n : Nat} {m : RowM} {st : St} {z i0 j e : Nat} (h : RowI n m st z i0 j e) (s : ByteArray) (hs0 : s.size ≠ 0) (hs : (s.size : Int) ≤ roomR m) (hcap : s.size ≤ st.cap - st.size) :
    ∃ q, (if e = z * j then j + 1 else j) = q + 1 ∧ i0 ≤ q ∧ z * q ≤ e ∧ e + s.size ≤ z * q + z ∧ (e ≠ z * j → q + 1 = j) ∧ (e = z * j → q = j) ∧
      (∃ f f', (ps m st).find (nameB m.head (z * q)) = some f ∧ f.bytes.length = e - z * q ∧ (e ≠ z * j → st.find (nameB m.head (z * q)) = some f) ∧ (appS m st s).find (nameB m.head (z * q)) = some f' ∧ f'.bytes = f.bytes ++ s.data.toList) ∧
      (∀ i, i < q → (appS m st s).find (nameB m.head (z * i)) = st.find (nameB m.head (z * i))) ∧ (appS m st s).size = st.size + s.size ∧ (appS m st s).cap = st.cap ∧ (∀ nm ∈ (appS m st s).fs.map (·.1), nm ∈ st.fs.map (·.1) ∨ nm = nameB m.head (z * q)) := by
  have hok := h.rowOk
  obtain ⟨hcalm, hcp, hsz, hl0, hl1, hl2, f, hf, hfl⟩ := hok.pre
  have hw := hcalm.writeS (s := s) hf hfl (by rw [hcp, hsz]; exact hcap) hs0
  have h1 := h.size
  have h3 := h.end_
  have h4 := h.next
  have h5 := h.room
  have h6 := h.z1
  have h8 := h.e1
  have h9 := h.e2
  have h10 := h.ij
  have h11 := h.eb
  have hsj : z * (j + 1) = z * j + z := Nat.mul_succ z j
  have hiff : (m.end_ = m.next) ↔ e = z * j := by omega
  obtain ⟨q, hq1, hq2, hq3, hq4⟩ : ∃ q, (if e = z * j then j + 1 else j) = q + 1 ∧ (lastOf m).toNat = z * q ∧ i0 ≤ q ∧ (e ≠ z * j → q + 1 = j) ∧ (e = z * j → q = j) := by
    by_cases he : e = z * j
    · refine ⟨j, by rw [if_pos he], ?_, h10, fun hx => absurd he hx, fun _ => rfl⟩
      unfold lastOf pm
      rw [if_pos (hiff.2 he)]
      simp only
      omega
    · have hlt : i0 < j := Nat.lt_of_le_of_ne h10 fun hx => he (by subst hx; omega)
      refine ⟨j - 1, by rw [if_neg he]; omega, ?_, by omega, fun _ => by omega, fun hx => absurd hx he⟩
      unfold lastOf pm
      rw [if_neg (fun hx => he (hiff.1 hx)), h4, h1]
      have : z * (j - 1 + 1) = z * (j - 1) + z := Nat.mul_succ z (j - 1)
      rw [show j - 1 + 1 = j by omega] at this
      omega
  obtain ⟨hq4, hq5⟩ := hq4
  have hsq : z * (q + 1) = z * q + z := Nat.mul_succ z q
  have hla : lastOf m = ((z * q : Nat) : Int) := by omega
  have hflen : f.bytes.length = e - z * q := by omega
  have hsr : z * q ≤ e ∧ e + s.size ≤ z * q + z := by
    unfold roomR at hs
    by_cases he : e = z * j
    · rw [if_pos (hiff.2 he)] at hs
      have := hq5 he
      subst this
      omega
    · rw [if_neg (fun hx => he (hiff.1 hx))] at hs
      have := hq4 he
      rw [this] at hsq
      omega
  have hne : ∀ i, i < q → nameB m.head (z * i) ≠ nameB m.head (z * q) := fun i hi hx => by
    have hle : z * i ≤ z * q := Nat.mul_le_mul_left z (by omega)
    have hqj : q ≤ j := by by_cases he : e = z * j; have := hq5 he; omega; have := hq4 he; omega
    have hqb : z * q ≤ z * j := Nat.mul_le_mul_left z hqj
    have := nameB_inj m.head (by omega) (by omega) hx
    have := Nat.eq_of_mul_eq_mul_left (show 0 < z by omega) this
    omega
  rw [hq2] at hf
  refine ⟨q, hq1, hq3, hsr.1, hsr.2, hq4, hq5, ⟨f, addF f ⟨((ps m st).turn : Int) + 1, (m.end_ - lastOf m).toNat, s⟩, hf, hflen, fun he => ?_, ?_, ?_⟩, fun i hi => ?_, ?_, ?_, fun nm hnm => ?_⟩
  · unfold ps at hf
    rw [if_neg (fun hx => he (hiff.1 hx))] at hf
    exact hf
  · show (appS m st s).find (nameB m.head (z * q)) = some (addF f ⟨((ps m st).turn : Int) + 1, (m.end_ - lastOf m).toNat, s⟩)
    unfold appS
    rw [hw, hq2]
    unfold St.find
    simp only
    exact find_set_same (f := f) hf
  · have e1 : (m.end_ - lastOf m).toNat = f.bytes.length := by omega
    show putB f.bytes (m.end_ - lastOf m).toNat s.data.toList = _
    rw [e1]
    exact putB_end _ _
  · unfold appS
    rw [hq2, find_write (hne i hi)]
    unfold ps
    by_cases he : e = z * j
    · rw [if_pos (hiff.2 he), show m.next.toNat = z * j by omega]
      have := hne i hi
      rw [hq5 he] at this
      exact find_create this
    · rw [if_neg (fun hx => he (hiff.1 hx))]
  · unfold appS
    rw [hw]
    show (ps m st).size + s.size = _
    rw [hsz]
  · unfold appS
    rw [hw]
    exact hcp
  · unfold appS at hnm
    rw [hw] at hnm
    simp only at hnm
    rw [names_setF] at hnm
    unfold ps at hnm
    by_cases he : e = z * j
    · rw [if_pos (hiff.2 he), h.calm.createS (hok.fresh (hiff.2 he)), show m.next.toNat = z * j by omega] at hnm
      simp only [List.map_append, List.map_cons, List.map_nil, List.mem_append, List.mem_singleton] at hnm
      rw [hq5 he]
      exact hnm
    · rw [if_neg (fun hx => he (hiff.1 hx))] at hnm
      exact .inl hnm
theorem RowK.append {n : Nat} {m : RowM} {st : St} {z i0 j : Nat} {all : List UInt8} (h : RowK n m st z i0 j all) (hn : n ≤ 200) (s : ByteArray) (hs0 : s.size ≠ 0) (hs : (s.size : Int) ≤ roomR m) :
    s.size ≤ st.cap - st.size ∧ RowK (n + 2) (appM m s.size) (appS m st s) z i0 (if z * i0 + all.length = z * j then j + 1 else j) (all ++ s.data.toList) := by
  have hcp := h.cap
  have hsz := h.size
  have hen := h.en
  have h6 := h.row.z1
  have h7 := h.row.z2
  have h8 := h.row.e1
  have h9 := h.row.e2
  have hrm := h.row.room_eq
  have hcap : s.size ≤ st.cap - st.size := by omega
  have hsj : z * (j + 1) = z * j + z := Nat.mul_succ z j
  have hrow := h.row.append s hs0 hs hcap (by omega)
  obtain ⟨q, hq1, hq3, hq2, hqs, hq4, hq5, ⟨f, f', hf, hfl, hff, hf', hfb⟩, hoth, hsz', hcp', hnm'⟩ := h.row.append_find s hs0 hs hcap
  have hhd : (appM m s.size).head = m.head := by show (pm m).head = _; unfold pm; split <;> rfl
  have hql : z * i0 ≤ z * q := Nat.mul_le_mul_left z hq3
  refine ⟨hcap, ?_, ?_, fun hx => ?_, hcp'.trans hcp, by rw [hsz']; omega, by rw [List.length_append, size_toList]; omega, ?_⟩
  · rw [List.length_append, size_toList, ← Nat.add_assoc]
    exact hrow
  · rw [hhd, hq1]
    intro i a1 a2
    by_cases hi : i = q
    · subst hi
      refine ⟨f', hf', ?_⟩
      have hf2 : f.bytes = all.drop (z * i - z * i0) := by
        by_cases he : z * i0 + all.length = z * j
        · have hq := hq5 he
          have h0 : f.bytes = [] := List.length_eq_zero_iff.1 (by rw [hfl, hq]; omega)
          rw [h0, List.drop_eq_nil_of_le (by rw [hq]; omega)]
        · have hq := hq4 he
          obtain ⟨f2, hf2, hb2⟩ := h.ch i a1 (by omega)
          rw [hff he] at hf2
          obtain rfl := Option.some.inj hf2
          rw [hb2, List.take_of_length_le]
          rw [List.length_drop]
          omega
      rw [hfb, hf2, List.drop_append_of_le_length (by omega), List.take_of_length_le]
      rw [List.length_append, List.length_drop, size_toList]
      omega
    · have hiq : i < q := by omega
      have hij : i < j := by by_cases he : z * i0 + all.length = z * j; have := hq5 he; omega; have := hq4 he; omega
      obtain ⟨f2, hf2, hb2⟩ := h.ch i a1 hij
      refine ⟨f2, by rw [hoth i hiq]; exact hf2, ?_⟩
      have l1 : z * (i + 1) ≤ z * q := Nat.mul_le_mul_left z hiq
      have l2 : z * (i + 1) = z * i + z := Nat.mul_succ z i
      have l3 : z * i0 ≤ z * i := Nat.mul_le_mul_left z a1
      rw [hb2, List.drop_append_of_le_length (by omega), List.take_append_of_le_length]
      rw [List.length_drop]
      omega
  · rw [hq1, List.length_append, size_toList]
    have : q + 1 - 1 = q := by omega
    rw [this]
    omega
  · intro p hp
    rcases hnm' p.1 (List.mem_map_of_mem hp) with h1 | h1
    · obtain ⟨r, hr, hx⟩ := List.mem_map.1 h1
      rw [← hx]
      exact h.nm r hr
    · rw [h1, nameB_size]
      have := h.row.head
      omega
theorem find_sync1_same {st : St} {t nm : ByteArray} {f : FileM} (h : st.find nm = some f) : ∃ f', (sync1 st t).find nm = some f' ∧ f'.bytes = f.bytes := by
  by_cases ht : nm = t
  · subst ht
    refine ⟨syncF f, ?_, rfl⟩
    unfold sync1
    rw [h]
    unfold St.find
    exact find_set_same (f := f) (by unfold St.find at h; exact h)
  · exact ⟨f, by rw [find_sync1 ht]; exact h, rfl⟩
theorem find_syncAll_same (ts : List ByteArray) {nm : ByteArray} : ∀ {st : St} {f : FileM}, st.find nm = some f → ∃ f', (syncAll st ts).find nm = some f' ∧ f'.bytes = f.bytes := by
  induction ts with
  | nil => intro st f h; exact ⟨f, h, rfl⟩
  | cons t ts ih =>
    intro st f h
    obtain ⟨f1, h1, h2⟩ := find_sync1_same (t := t) h
    obtain ⟨f2, h3, h4⟩ := ih h1
    exact ⟨f2, h3, h4.trans h2⟩
theorem RowK.sync {n : Nat} {m : RowM} {st : St} {z i0 j : Nat} {all : List UInt8} (h : RowK n m st z i0 j all) (u : Nat) : RowK n (syncedM m) (syncAll st (rowNames m u)) z i0 j all := by
  refine ⟨h.row.sync u, fun i a1 a2 => ?_, h.tight, (syncAll_size _ st).2.trans h.cap, by rw [(syncAll_size _ st).1]; exact h.size, h.en, names_le_of (fun nm hnm => by rw [(syncAll_same st _).1] at hnm; exact hnm) h.nm⟩
  obtain ⟨f, hf, hb⟩ := h.ch i a1 a2
  obtain ⟨f', h1, h2⟩ := find_syncAll_same (rowNames m u) hf
  exact ⟨f', h1, h2.trans hb⟩
theorem RowK.drop {n : Nat} {m : RowM} {st : St} {z i0 j : Nat} {all : List UInt8} (h : RowK n m st z i0 j all) (hij : i0 + 1 < j) : RowK n (dropM m) (deleteAll st [nameB m.head m.begin_.toNat]) z (i0 + 1) j (all.drop z) := by
  have h1 := h.row.size
  have h2 := h.row.beg
  have h5 := h.row.room
  have h6 := h.row.z1
  have h9 := h.row.e2
  have ht := h.tight hij
  have hs0 : z * (i0 + 1) = z * i0 + z := Nat.mul_succ z i0
  have hle : z * (i0 + 1) ≤ z * (j - 1) := Nat.mul_le_mul_left z (by omega)
  have hlen : z * (i0 + 1) + (all.drop z).length = z * i0 + all.length := by rw [List.length_drop]; omega
  have hrow := h.row.drop hij
  refine ⟨by rw [hlen]; exact hrow, fun i a1 a2 => ?_, fun hx => by rw [hlen]; exact ht, ?_, Nat.le_trans (deleteAll_size _ _) h.size, by rw [hlen]; exact h.en, fun p hp => h.nm p (deleteAll_sub _ _ p hp)⟩
  · obtain ⟨f, hf, hb⟩ := h.ch i (by omega) a2
    refine ⟨f, ?_, ?_⟩
    · show (deleteAll st [nameB m.head m.begin_.toNat]).find (nameB m.head (z * i)) = some f
      rw [find_deleteAll]
      · exact hf
      · rw [show m.begin_.toNat = z * i0 by omega]
        intro hx
        have hx : nameB m.head (z * i) = nameB m.head (z * i0) := by simpa using hx
        have l1 : z * i ≤ z * j := Nat.mul_le_mul_left z (by omega)
        have l0 : z * i0 ≤ z * j := Nat.mul_le_mul_left z (by omega)
        have := nameB_inj m.head (by omega) (by omega) hx
        have := Nat.eq_of_mul_eq_mul_left (show 0 < z by omega) this
        omega
    · have l3 : z * (i0 + 1) ≤ z * i := Nat.mul_le_mul_left z a1
      rw [hb, List.drop_drop, show z * i - z * i0 = z + (z * i - z * (i0 + 1)) by omega]
  · exact (deleteAll_keeps st _).2.2.trans h.cap
theorem RowK.open_ {n : Nat} {m : RowM} {st : St} {z i0 j : Nat} {all : List UInt8} (h : RowK n m st z i0 j all) : RowK n (openM st m.head z) st z i0 j all ∧ openS st m.head z = st ∧ (openM st m.head z).head = m.head := by
  obtain ⟨h1, h2, h3⟩ := h.row.open_
  exact ⟨⟨h1, fun i a1 a2 => by rw [h3]; exact h.ch i a1 a2, h.tight, h.cap, h.size, h.en, h.nm⟩, h2, h3⟩
theorem RowK.leave {n : Nat} {m : RowM} {st : St} {z i0 j : Nat} {all : List UInt8} (h : RowK n m st z i0 j all) (a : Nat) (ha0 : z * i0 ≤ a) (ha1 : a ≤ z * i0 + all.length) :
    ∃ j1 e1, RowK n (leaveM m a) (leaveS m st a) z i0 j1 (all.take (e1 - z * i0)) ∧ z * i0 ≤ e1 ∧ e1 ≤ z * i0 + all.length ∧ a ≤ e1 ∧ (leaveM m a).end_ = (e1 : Int) ∧ (leaveM m a).head = m.head ∧
      (a < e1 → i0 + 1 ≤ j1 ∧ z * (j1 - 1) ≤ a ∧ (i0 + 1 < j1 → z * (j1 - 1) < a)) ∧ (i0 < j → i0 < j1) ∧ (i0 = j → i0 = j1) ∧
      ((e1 = z * i0 + all.length ∧ (leaveM m a).synced = m.synced) ∨ (leaveM m a).synced = min m.synced (e1 : Int)) ∧
      (∀ t ∈ rowNames m (fromM m a).toNat, (st.find t).isSome = true) ∧ Others m.head st (leaveS m st a) := by
  obtain ⟨k, hk, hk0, hka, hkz⟩ := h.row.from_ a
  have h1 := h.row.size
  have h2 := h.row.beg
  have h3 := h.row.end_
  have h4 := h.row.next
  have h5 := h.row.room
  have h6 := h.row.z1
  have h9 := h.row.e2
  have h8 := h.row.e1
  have h10 := h.row.ij
  have hs0 : z * (i0 + 1) = z * i0 + z := Nat.mul_succ z i0
  have hkn : (fromM m a).toNat = z * k := by omega
  have hfd : ∀ t ∈ rowNames m (fromM m a).toNat, (st.find t).isSome = true := h.row.found _ ⟨k, hkn, by omega⟩
  have hot : Others m.head st (leaveS m st a) := Others.delete
  by_cases hkj : k < j
  · have hle1 : z * (k + 1) ≤ z * j := Nat.mul_le_mul_left z (by omega)
    have hs1 : z * (k + 1) = z * k + z := Nat.mul_succ z k
    have hle0 : z * (i0 + 1) ≤ z * k := Nat.mul_le_mul_left z hk0
    have hke : z * k ≤ z * i0 + all.length := by omega
    have hlt : fromM m a < m.next := by omega
    have hM : leaveM m a = { m with next := ((z * k : Nat) : Int), end_ := ((z * k : Nat) : Int), synced := min m.synced ((z * k : Nat) : Int) } := by
      unfold leaveM
      rw [if_pos hlt, hk]
      unfold shrinkM
      have : min m.end_ ((z * k : Nat) : Int) = ((z * k : Nat) : Int) := by omega
      rw [this]
    have hS : leaveS m st a = deleteAll st (rowNames m (z * k)) := by unfold leaveS; rw [hkn]
    have hrow := h.row.leave k hk0 hkj (min m.synced ((z * k : Nat) : Int))
    have hlen : z * i0 + (all.take (z * k - z * i0)).length = z * k := by rw [List.length_take]; omega
    refine ⟨k, z * k, ⟨?_, fun i a1 a2 => ?_, fun hx => ?_, ?_, ?_, ?_, ?_⟩, by omega, hke, hka, by rw [hM], by rw [hM], fun hx => ?_, fun _ => by omega, fun hx => by omega, .inr (by rw [hM]), hfd, hot⟩
    · rw [hM, hS, hlen]; exact hrow
    · obtain ⟨f, hf, hb⟩ := h.ch i a1 (by omega)
      refine ⟨f, ?_, ?_⟩
      · rw [hM, hS]
        show (deleteAll st (rowNames m (z * k))).find (nameB m.head (z * i)) = some f
        rw [find_deleteAll]
        · exact hf
        · intro hx
          obtain ⟨p, hp, hx⟩ := List.mem_map.1 hx
          rw [show m.next.toNat = z * j by omega, show m.size.toNat = z by omega] at hp
          obtain ⟨r, r1, r2, rfl⟩ := (plS_iff (by omega) k j p (by omega)).1 hp
          have l1 : z * i ≤ z * j := Nat.mul_le_mul_left z (by omega)
          have l2 : z * r ≤ z * j := Nat.mul_le_mul_left z (by omega)
          have := nameB_inj m.head (by omega) (by omega) hx
          have := Nat.eq_of_mul_eq_mul_left (show 0 < z by omega) this
          omega
      · have l1 : z * (i + 1) ≤ z * k := Nat.mul_le_mul_left z (by omega)
        have l2 : z * (i + 1) = z * i + z := Nat.mul_succ z i
        have l3 : z * i0 ≤ z * i := Nat.mul_le_mul_left z a1
        rw [hb, List.drop_take, List.take_take]
        congr 1
        omega
    · rw [hlen]
      have l2 : z * (k - 1 + 1) = z * (k - 1) + z := Nat.mul_succ z (k - 1)
      rw [show k - 1 + 1 = k by omega] at l2
      omega
    · rw [hS]; exact (deleteAll_keeps st _).2.2.trans h.cap
    · rw [hS]; exact Nat.le_trans (deleteAll_size _ _) h.size
    · rw [hlen]; have := h.en; omega
    · rw [hS]; exact fun p hp => h.nm p (deleteAll_sub _ _ p hp)
    · have l2 : z * (k - 1 + 1) = z * (k - 1) + z := Nat.mul_succ z (k - 1)
      rw [show k - 1 + 1 = k by omega] at l2
      refine ⟨hk0, ?_, fun hy => ?_⟩
      · rcases hkz with hkz | hkz
        · subst hkz
          rw [show i0 + 1 - 1 = i0 by omega]; omega
        · omega
      · rcases hkz with hkz | hkz <;> omega
  · have hle : z * j ≤ z * k := Nat.mul_le_mul_left z (by omega)
    have hlt : ¬ fromM m a < m.next := by omega
    have hM : leaveM m a = m := by unfold leaveM; rw [if_neg hlt]
    have hS : leaveS m st a = st := by
      unfold leaveS
      rw [rowNames_nil (by omega) hlt]
      rfl
    have hall : all.take (z * i0 + all.length - z * i0) = all := List.take_of_length_le (by omega)
    refine ⟨j, z * i0 + all.length, ?_, by omega, Nat.le_refl _, ha1, ?_, by rw [hM], fun hx => ?_, fun hx => hx, fun hx => hx, .inl ⟨rfl, by rw [hM]⟩, hfd, hot⟩
    · rw [hM, hS, hall]; exact h
    · rw [hM]; exact h3
    · have hij : i0 < j := Nat.lt_of_le_of_ne h10 fun hx => by subst hx; omega
      have l2 : z * (j - 1 + 1) = z * (j - 1) + z := Nat.mul_succ z (j - 1)
      rw [show j - 1 + 1 = j by omega] at l2
      refine ⟨by omega, ?_, fun hy => ?_⟩
      · rcases hkz with hkz | hkz
        · have hj : j = i0 + 1 := by omega
          subst hj
          rw [show i0 + 1 - 1 = i0 by omega]; omega
        · omega
      · rcases hkz with hkz | hkz <;> omega
theorem RowK.cut {n : Nat} {m : RowM} {st : St} {z i0 q : Nat} {all : List UInt8} (h : RowK n m st z i0 (q + 1) all) (a : Nat) (ha0 : z * q ≤ a) (ha1 : a ≤ z * i0 + all.length) (hq : i0 ≤ q) (ht : i0 + 1 < q + 1 → z * q < a) :
    RowK n (shrinkM m a) (cutS st (nameB m.head (z * q)) ((a : Int) - ((z * q : Nat) : Int))) z i0 (q + 1) (all.take (a - z * i0)) ∧ ∃ f, st.find (nameB m.head (z * q)) = some f ∧ (a : Int) - ((z * q : Nat) : Int) ≤ f.bytes.length := by
  have h1 := h.row.size
  have h5 := h.row.room
  have h6 := h.row.z1
  have h8 := h.row.e1
  have hsq : z * (q + 1) = z * q + z := Nat.mul_succ z q
  have hle0 : z * i0 ≤ z * q := Nat.mul_le_mul_left z hq
  obtain ⟨f, hf, hfb⟩ := h.ch q hq (by omega)
  have hfl : f.bytes.length = z * i0 + all.length - z * q := by rw [hfb, List.length_take, List.length_drop]; omega
  have hk0 : (0 : Int) ≤ (a : Int) - ((z * q : Nat) : Int) := by omega
  have hk1 : (a : Int) - ((z * q : Nat) : Int) ≤ f.bytes.length := by omega
  have hcs := h.row.calm.cutS hf hk0 hk1
  rw [show ((a : Int) - ((z * q : Nat) : Int)).toNat = a - z * q by omega] at hcs
  have hlen : z * i0 + (all.take (a - z * i0)).length = a := by rw [List.length_take]; omega
  have hrow := h.row.cut a ha0 ha1 hq
  refine ⟨⟨by rw [hlen]; exact hrow, fun i a1 a2 => ?_, fun hx => by rw [hlen, show q + 1 - 1 = q by omega]; exact ht hx, ?_, ?_, by rw [hlen]; have := h.en; omega, ?_⟩, f, hf, hk1⟩
  · show ∃ f', (cutS st (nameB m.head (z * q)) _).find (nameB m.head (z * i)) = some f' ∧ _
    by_cases hi : i = q
    · subst hi
      refine ⟨cutF f (a - z * i), ?_, ?_⟩
      · rw [hcs]
        unfold St.find
        exact find_set_same (f := f) hf
      · show f.bytes.take (a - z * i) = _
        rw [hfb, List.take_take, List.drop_take, List.take_take]
        congr 1
        omega
    · obtain ⟨f2, hf2, hb2⟩ := h.ch i a1 a2
      have hle : z * (i + 1) ≤ z * q := Nat.mul_le_mul_left z (by omega)
      have hsi : z * (i + 1) = z * i + z := Nat.mul_succ z i
      have l3 : z * i0 ≤ z * i := Nat.mul_le_mul_left z a1
      have hne : nameB m.head (z * i) ≠ nameB m.head (z * q) := fun hx => by
        have := nameB_inj m.head (by omega) (by omega) hx
        exact hi (Nat.eq_of_mul_eq_mul_left (by omega) this)
      refine ⟨f2, by rw [find_cut hne]; exact hf2, ?_⟩
      rw [hb2, List.drop_take, List.take_take]
      congr 1
      omega
  · rw [hcs]; exact h.cap
  · rw [hcs]; have := h.size; show st.size - _ ≤ _; omega
  · rw [hcs]
    intro p hp
    have : p.1 ∈ (setF st.fs (nameB m.head (z * q)) (cutF f (a - z * q))).map (·.1) := List.mem_map_of_mem hp
    rw [names_setF] at this
    obtain ⟨r, hr, hx⟩ := List.mem_map.1 this
    rw [← hx]
    exact h.nm r hr
theorem RowG.other {w0 w w' : World} {a b : Nat} {g g' : Gh} {st st' : St} {m : RowM} (h : RowG w0 w a g st m) (hab : a ≠ b) (hd : DiskAt w' g' st') (ht : RowTo w b g g' w') (hc : Chg (fun _ => False) w0 w') (hl : ∀ k ∈ g'.fp, w0.heap.size ≤ k) : RowG w0 w' a g' st' m := by
  have hn : ¬ (a = b ∨ a ∈ g.fp) := fun hx => hx.elim hab h.out
  refine ⟨hd, by rw [ht.d]; exact h.row.chg ht.chg hn, fun hx => ?_, hc, hl, h.lowb, h.tab0⟩
  rcases ht.fp a hx with h1 | h1
  · exact h.out h1
  · have := h.row.lt
    omega
structure RowC (n : Nat) (m : RowM) (st : St) (z i0 j : Nat) (all : List UInt8) : Prop where
  row : RowI n m st z i0 j (z * i0 + all.length)
  ch : ∀ i, i0 ≤ i → i < j → ∃ f, st.find (nameB m.head (z * i)) = some f ∧ f.bytes = (all.drop (z * i - z * i0)).take z
  tight : i0 + 1 < j → z * (j - 1) < z * i0 + all.length
  nm : ∀ p ∈ st.fs, p.1.size ≤ 1048576
theorem RowC.more {n n' : Nat} {m : RowM} {st : St} {z i0 j : Nat} {all : List UInt8} (h : RowC n m st z i0 j all) (hn : n ≤ n') : RowC n' m st z i0 j all := ⟨h.row.more hn, h.ch, h.tight, h.nm⟩
theorem RowC.append {n : Nat} {m : RowM} {st : St} {z i0 j : Nat} {all : List UInt8} (h : RowC n m st z i0 j all) (s : ByteArray) (hs0 : s.size ≠ 0) (hs : (s.size : Int) ≤ roomR m) (hcap : s.size ≤ st.cap - st.size) (hroom : z * (j + 1) ≤ 99000000) :
    RowC (n + 2) (appM m s.size) (appS m st s) z i0 (if z * i0 + all.length = z * j then j + 1 else j) (all ++ s.data.toList) ∧ (appS m st s).size = st.size + s.size ∧ (appS m st s).cap = st.cap := by
  have h6 := h.row.z1
  have h7 := h.row.z2
  have h8 := h.row.e1
  have h9 := h.row.e2
  have hrm := h.row.room_eq
  have hsj : z * (j + 1) = z * j + z := Nat.mul_succ z j
  have hrow := h.row.append s hs0 hs hcap hroom
  obtain ⟨q, hq1, hq3, hq2, hqs, hq4, hq5, ⟨f, f', hf, hfl, hff, hf', hfb⟩, hoth, hsz', hcp', hnm'⟩ := h.row.append_find s hs0 hs hcap
  have hhd : (appM m s.size).head = m.head := by show (pm m).head = _; unfold pm; split <;> rfl
  have hql : z * i0 ≤ z * q := Nat.mul_le_mul_left z hq3
  refine ⟨⟨?_, ?_, fun hx => ?_, ?_⟩, hsz', hcp'⟩
  · rw [List.length_append, size_toList, ← Nat.add_assoc]
    exact hrow
  · rw [hhd, hq1]
    intro i a1 a2
    by_cases hi : i = q
    · subst hi
      refine ⟨f', hf', ?_⟩
      have hf2 : f.bytes = all.drop (z * i - z * i0) := by
        by_cases he : z * i0 + all.length = z * j
        · have hq := hq5 he
          have h0 : f.bytes = [] := List.length_eq_zero_iff.1 (by rw [hfl, hq]; omega)
          rw [h0, List.drop_eq_nil_of_le (by rw [hq]; omega)]
        · have hq := hq4 he
          obtain ⟨f2, hf2, hb2⟩ := h.ch i a1 (by omega)
          rw [hff he] at hf2
          obtain rfl := Option.some.inj hf2
          rw [hb2, List.take_of_length_le]
          rw [List.length_drop]
          omega
      rw [hfb, hf2, List.drop_append_of_le_length (by omega), List.take_of_length_le]
      rw [List.length_append, List.length_drop, size_toList]
      omega
    · have hiq : i < q := by omega
      have hij : i < j := by by_cases he : z * i0 + all.length = z * j; have := hq5 he; omega; have := hq4 he; omega
      obtain ⟨f2, hf2, hb2⟩ := h.ch i a1 hij
      refine ⟨f2, by rw [hoth i hiq]; exact hf2, ?_⟩
      have l1 : z * (i + 1) ≤ z * q := Nat.mul_le_mul_left z hiq
      have l2 : z * (i + 1) = z * i + z := Nat.mul_succ z i
      have l3 : z * i0 ≤ z * i := Nat.mul_le_mul_left z a1
      rw [hb2, List.drop_append_of_le_length (by omega), List.take_append_of_le_length]
      rw [List.length_drop]
      omega
  · rw [hq1, List.length_append, size_toList]
    have : q + 1 - 1 = q := by omega
    rw [this]
    omega
  · intro p hp
    rcases hnm' p.1 (List.mem_map_of_mem hp) with h1 | h1
    · obtain ⟨r, hr, hx⟩ := List.mem_map.1 h1
      rw [← hx]
      exact h.nm r hr
    · rw [h1, nameB_size]
      have := h.row.head
      omega
theorem RowC.sync {n : Nat} {m : RowM} {st : St} {z i0 j : Nat} {all : List UInt8} (h : RowC n m st z i0 j all) (u : Nat) : RowC n (syncedM m) (syncAll st (rowNames m u)) z i0 j all := by
  refine ⟨h.row.sync u, fun i a1 a2 => ?_, h.tight, names_le_of (fun nm hnm => by rw [(syncAll_same st _).1] at hnm; exact hnm) h.nm⟩
  obtain ⟨f, hf, hb⟩ := h.ch i a1 a2
  obtain ⟨f', h1, h2⟩ := find_syncAll_same (rowNames m u) hf
  exact ⟨f', h1, h2.trans hb⟩
theorem RowC.drop {n : Nat} {m : RowM} {st : St} {z i0 j : Nat} {all : List UInt8} (h : RowC n m st z i0 j all) (hij : i0 + 1 < j) : RowC n (dropM m) (deleteAll st [nameB m.head m.begin_.toNat]) z (i0 + 1) j (all.drop z) := by
  have h1 := h.row.size
  have h2 := h.row.beg
  have h5 := h.row.room
  have h6 := h.row.z1
  have h9 := h.row.e2
  have ht := h.tight hij
  have hs0 : z * (i0 + 1) = z * i0 + z := Nat.mul_succ z i0
  have hle : z * (i0 + 1) ≤ z * (j - 1) := Nat.mul_le_mul_left z (by omega)
  have hlen : z * (i0 + 1) + (all.drop z).length = z * i0 + all.length := by rw [List.length_drop]; omega
  have hrow := h.row.drop hij
  refine ⟨by rw [hlen]; exact hrow, fun i a1 a2 => ?_, fun hx => by rw [hlen]; exact ht, fun p hp => h.nm p (deleteAll_sub _ _ p hp)⟩
  · obtain ⟨f, hf, hb⟩ := h.ch i (by omega) a2
    refine ⟨f, ?_, ?_⟩
    · show (deleteAll st [nameB m.head m.begin_.toNat]).find (nameB m.head (z * i)) = some f
      rw [find_deleteAll]
      · exact hf
      · rw [show m.begin_.toNat = z * i0 by omega]
        intro hx
        have hx : nameB m.head (z * i) = nameB m.head (z * i0) := by simpa using hx
        have l1 : z * i ≤ z * j := Nat.mul_le_mul_left z (by omega)
        have l0 : z * i0 ≤ z * j := Nat.mul_le_mul_left z (by omega)
        have := nameB_inj m.head (by omega) (by omega) hx
        have := Nat.eq_of_mul_eq_mul_left (show 0 < z by omega) this
        omega
    · have l3 : z * (i0 + 1) ≤ z * i := Nat.mul_le_mul_left z a1
      rw [hb, List.drop_drop, show z * i - z * i0 = z + (z * i - z * (i0 + 1)) by omega]
theorem RowC.open_ {n : Nat} {m : RowM} {st : St} {z i0 j : Nat} {all : List UInt8} (h : RowC n m st z i0 j all) : RowC n (openM st m.head z) st z i0 j all ∧ openS st m.head z = st ∧ (openM st m.head z).head = m.head := by
  obtain ⟨h1, h2, h3⟩ := h.row.open_
  exact ⟨⟨h1, fun i a1 a2 => by rw [h3]; exact h.ch i a1 a2, h.tight, h.nm⟩, h2, h3⟩
theorem RowC.leave {n : Nat} {m : RowM} {st : St} {z i0 j : Nat} {all : List UInt8} (h : RowC n m st z i0 j all) (a : Nat) (ha0 : z * i0 ≤ a) (ha1 : a ≤ z * i0 + all.length) :
    ∃ j1 e1, RowC n (leaveM m a) (leaveS m st a) z i0 j1 (all.take (e1 - z * i0)) ∧ z * i0 ≤ e1 ∧ e1 ≤ z * i0 + all.length ∧ a ≤ e1 ∧ (leaveM m a).end_ = (e1 : Int) ∧ (leaveM m a).head = m.head ∧
      (a < e1 → i0 + 1 ≤ j1 ∧ z * (j1 - 1) ≤ a ∧ (i0 + 1 < j1 → z * (j1 - 1) < a)) ∧ (i0 < j → i0 < j1) ∧ (i0 = j → i0 = j1) ∧
      ((e1 = z * i0 + all.length ∧ (leaveM m a).synced = m.synced) ∨ (leaveM m a).synced = min m.synced (e1 : Int)) ∧
      (∀ t ∈ rowNames m (fromM m a).toNat, (st.find t).isSome = true) ∧ Others m.head st (leaveS m st a) := by
  obtain ⟨k, hk, hk0, hka, hkz⟩ := h.row.from_ a
  have h1 := h.row.size
  have h2 := h.row.beg
  have h3 := h.row.end_
  have h4 := h.row.next
  have h5 := h.row.room
  have h6 := h.row.z1
  have h9 := h.row.e2
  have h8 := h.row.e1
  have h10 := h.row.ij
  have hs0 : z * (i0 + 1) = z * i0 + z := Nat.mul_succ z i0
  have hkn : (fromM m a).toNat = z * k := by omega
  have hfd : ∀ t ∈ rowNames m (fromM m a).toNat, (st.find t).isSome = true := h.row.found _ ⟨k, hkn, by omega⟩
  have hot : Others m.head st (leaveS m st a) := Others.delete
  by_cases hkj : k < j
  · have hle1 : z * (k + 1) ≤ z * j := Nat.mul_le_mul_left z (by omega)
    have hs1 : z * (k + 1) = z * k + z := Nat.mul_succ z k
    have hle0 : z * (i0 + 1) ≤ z * k := Nat.mul_le_mul_left z hk0
    have hke : z * k ≤ z * i0 + all.length := by omega
    have hlt : fromM m a < m.next := by omega
    have hM : leaveM m a = { m with next := ((z * k : Nat) : Int), end_ := ((z * k : Nat) : Int), synced := min m.synced ((z * k : Nat) : Int) } := by
      unfold leaveM
      rw [if_pos hlt, hk]
      unfold shrinkM
      have : min m.end_ ((z * k : Nat) : Int) = ((z * k : Nat) : Int) := by omega
      rw [this]
    have hS : leaveS m st a = deleteAll st (rowNames m (z * k)) := by unfold leaveS; rw [hkn]
    have hrow := h.row.leave k hk0 hkj (min m.synced ((z * k : Nat) : Int))
    have hlen : z * i0 + (all.take (z * k - z * i0)).length = z * k := by rw [List.length_take]; omega
    refine ⟨k, z * k, ⟨?_, fun i a1 a2 => ?_, fun hx => ?_, ?_⟩, by omega, hke, hka, by rw [hM], by rw [hM], fun hx => ?_, fun _ => by omega, fun hx => by omega, .inr (by rw [hM]), hfd, hot⟩
    · rw [hM, hS, hlen]; exact hrow
    · obtain ⟨f, hf, hb⟩ := h.ch i a1 (by omega)
      refine ⟨f, ?_, ?_⟩
      · rw [hM, hS]
        show (deleteAll st (rowNames m (z * k))).find (nameB m.head (z * i)) = some f
        rw [find_deleteAll]
        · exact hf
        · intro hx
          obtain ⟨p, hp, hx⟩ := List.mem_map.1 hx
          rw [show m.next.toNat = z * j by omega, show m.size.toNat = z by omega] at hp
          obtain ⟨r, r1, r2, rfl⟩ := (plS_iff (by omega) k j p (by omega)).1 hp
          have l1 : z * i ≤ z * j := Nat.mul_le_mul_left z (by omega)
          have l2 : z * r ≤ z * j := Nat.mul_le_mul_left z (by omega)
          have := nameB_inj m.head (by omega) (by omega) hx
          have := Nat.eq_of_mul_eq_mul_left (show 0 < z by omega) this
          omega
      · have l1 : z * (i + 1) ≤ z * k := Nat.mul_le_mul_left z (by omega)
        have l2 : z * (i + 1) = z * i + z := Nat.mul_succ z i
        have l3 : z * i0 ≤ z * i := Nat.mul_le_mul_left z a1
        rw [hb, List.drop_take, List.take_take]
        congr 1
        omega
    · rw [hlen]
      have l2 : z * (k - 1 + 1) = z * (k - 1) + z := Nat.mul_succ z (k - 1)
      rw [show k - 1 + 1 = k by omega] at l2
      omega
    · rw [hS]; exact fun p hp => h.nm p (deleteAll_sub _ _ p hp)
    · have l2 : z * (k - 1 + 1) = z * (k - 1) + z := Nat.mul_succ z (k - 1)
      rw [show k - 1 + 1 = k by omega] at l2
      refine ⟨hk0, ?_, fun hy => ?_⟩
      · rcases hkz with hkz | hkz
        · subst hkz
          rw [show i0 + 1 - 1 = i0 by omega]; omega
        · omega
      · rcases hkz with hkz | hkz <;> omega
  · have hle : z * j ≤ z * k := Nat.mul_le_mul_left z (by omega)
    have hlt : ¬ fromM m a < m.next := by omega
    have hM : leaveM m a = m := by unfold leaveM; rw [if_neg hlt]
    have hS : leaveS m st a = st := by
      unfold leaveS
      rw [rowNames_nil (by omega) hlt]
      rfl
    have hall : all.take (z * i0 + all.length - z * i0) = all := List.take_of_length_le (by omega)
    refine ⟨j, z * i0 + all.length, ?_, by omega, Nat.le_refl _, ha1, ?_, by rw [hM], fun hx => ?_, fun hx => hx, fun hx => hx, .inl ⟨rfl, by rw [hM]⟩, hfd, hot⟩
    · rw [hM, hS, hall]; exact h
    · rw [hM]; exact h3
    · have hij : i0 < j := Nat.lt_of_le_of_ne h10 fun hx => by subst hx; omega
      have l2 : z * (j - 1 + 1) = z * (j - 1) + z := Nat.mul_succ z (j - 1)
      rw [show j - 1 + 1 = j by omega] at l2
      refine ⟨by omega, ?_, fun hy => ?_⟩
      · rcases hkz with hkz | hkz
        · have hj : j = i0 + 1 := by omega
          subst hj
          rw [show i0 + 1 - 1 = i0 by omega]; omega
        · omega
      · rcases hkz with hkz | hkz <;> omega
theorem RowC.cut {n : Nat} {m : RowM} {st : St} {z i0 q : Nat} {all : List UInt8} (h : RowC n m st z i0 (q + 1) all) (a : Nat) (ha0 : z * q ≤ a) (ha1 : a ≤ z * i0 + all.length) (hq : i0 ≤ q) (ht : i0 + 1 < q + 1 → z * q < a) :
    RowC n (shrinkM m a) (cutS st (nameB m.head (z * q)) ((a : Int) - ((z * q : Nat) : Int))) z i0 (q + 1) (all.take (a - z * i0)) ∧ ∃ f, st.find (nameB m.head (z * q)) = some f ∧ (a : Int) - ((z * q : Nat) : Int) ≤ f.bytes.length := by
  have h1 := h.row.size
  have h5 := h.row.room
  have h6 := h.row.z1
  have h8 := h.row.e1
  have hsq : z * (q + 1) = z * q + z := Nat.mul_succ z q
  have hle0 : z * i0 ≤ z * q := Nat.mul_le_mul_left z hq
  obtain ⟨f, hf, hfb⟩ := h.ch q hq (by omega)
  have hfl : f.bytes.length = z * i0 + all.length - z * q := by rw [hfb, List.length_take, List.length_drop]; omega
  have hk0 : (0 : Int) ≤ (a : Int) - ((z * q : Nat) : Int) := by omega
  have hk1 : (a : Int) - ((z * q : Nat) : Int) ≤ f.bytes.length := by omega
  have hcs := h.row.calm.cutS hf hk0 hk1
  rw [show ((a : Int) - ((z * q : Nat) : Int)).toNat = a - z * q by omega] at hcs
  have hlen : z * i0 + (all.take (a - z * i0)).length = a := by rw [List.length_take]; omega
  have hrow := h.row.cut a ha0 ha1 hq
  refine ⟨⟨by rw [hlen]; exact hrow, fun i a1 a2 => ?_, fun hx => by rw [hlen, show q + 1 - 1 = q by omega]; exact ht hx, ?_⟩, f, hf, hk1⟩
  · show ∃ f', (cutS st (nameB m.head (z * q)) _).find (nameB m.head (z * i)) = some f' ∧ _
    by_cases hi : i = q
    · subst hi
      refine ⟨cutF f (a - z * i), ?_, ?_⟩
      · rw [hcs]
        unfold St.find
        exact find_set_same (f := f) hf
      · show f.bytes.take (a - z * i) = _
        rw [hfb, List.take_take, List.drop_take, List.take_take]
        congr 1
        omega
    · obtain ⟨f2, hf2, hb2⟩ := h.ch i a1 a2
      have hle : z * (i + 1) ≤ z * q := Nat.mul_le_mul_left z (by omega)
      have hsi : z * (i + 1) = z * i + z := Nat.mul_succ z i
      have l3 : z * i0 ≤ z * i := Nat.mul_le_mul_left z a1
      have hne : nameB m.head (z * i) ≠ nameB m.head (z * q) := fun hx => by
        have := nameB_inj m.head (by omega) (by omega) hx
        exact hi (Nat.eq_of_mul_eq_mul_left (by omega) this)
      refine ⟨f2, by rw [find_cut hne]; exact hf2, ?_⟩
      rw [hb2, List.drop_take, List.take_take]
      congr 1
      omega
  · rw [hcs]
    intro p hp
    have : p.1 ∈ (setF st.fs (nameB m.head (z * q)) (cutF f (a - z * q))).map (·.1) := List.mem_map_of_mem hp
    rw [names_setF] at this
    obtain ⟨r, hr, hx⟩ := List.mem_map.1 this
    rw [← hx]
    exact h.nm r hr
def CTo (w0 w : World) (b : Nat) (g : Gh) (st : St) (H : ByteArray) (n z i0 j : Nat) (all : List UInt8) (sy : Int) (w' : World) : Prop :=
  ∃ g' m' st', RowG w0 w' b g' st' m' ∧ RowTo w b g g' w' ∧ Others H st st' ∧ m'.head = H ∧ m'.synced = sy ∧ RowC n m' st' z i0 j all ∧ st'.cap = st.cap
def CAppTo (w0 w : World) (b : Nat) (g : Gh) (st : St) (m : RowM) (n z i0 j : Nat) (all : List UInt8) (s : ByteArray) (w' : World) : Prop :=
  ∃ g' m' st', RowG w0 w' b g' st' m' ∧ RowTo w b g g' w' ∧ Others m.head st st' ∧ m'.head = m.head ∧ m'.synced = m.synced ∧ RowC (n + 2) m' st' z i0 (if z * i0 + all.length = z * j then j + 1 else j) (all ++ s.data.toList) ∧ st'.size = st.size + s.size ∧ st'.cap = st.cap
theorem c_append {w0 w : World} {b : Nat} {g : Gh} {st : St} {m : RowM} {n z i0 j : Nat} {all : List UInt8} (hg : RowG w0 w b g st m) (h : RowC n m st z i0 j all) (hn : n ≤ 1000000) (s : ByteArray) (hs0 : s.size ≠ 0) (hs : (s.size : Int) ≤ roomR m) (hcap : s.size ≤ st.cap - st.size) (hroom : z * (j + 1) ≤ 99000000) :
    Calls Tryz.prog 36 #[.pointer (some ⟨b, 0, none⟩), .string s] w fun e w' => e = .returned (.tuple #[.int .i64 ((z * i0 + all.length : Nat) : Int), .int .i64 0]) ∧ CAppTo w0 w b g st m n z i0 j all s w' := by
  obtain ⟨hk, hsz, hcp⟩ := h.append s hs0 hs hcap hroom
  refine (append_ok w0 b g st m s n w hg h.row.rowOk (by omega) hs0 hs hcap).mono ?_
  rintro e w' ⟨rfl, g', hg', hto⟩
  refine ⟨by rw [h.row.end_], g', _, _, hg', hto, Others.app, ?_, ?_, hk, hsz, hcp⟩
  · show (pm m).head = _; unfold pm; split <;> rfl
  · show (pm m).synced = _; unfold pm; split <;> rfl
theorem c_sync {w0 w : World} {b : Nat} {g : Gh} {st : St} {m : RowM} {n z i0 j : Nat} {all : List UInt8} (hg : RowG w0 w b g st m) (h : RowC n m st z i0 j all) (hn : n ≤ 1048576) :
    Calls Tryz.prog 39 #[.pointer (some ⟨b, 0, none⟩)] w fun e w' => e = .returned (.int .i64 0) ∧ CTo w0 w b g st m.head n z i0 j all ((z * i0 + all.length : Nat) : Int) w' := by
  obtain ⟨t, t1, t2, t3⟩ := h.row.t0
  have h1 := h.row.size
  have h4 := h.row.next
  have h5 := h.row.room
  have h6 := h.row.z1
  have h7 := h.row.z2
  refine (rsync_any w0 b g st m n w hg h.row.calm hn (by omega) (by omega) (by omega) (by omega) (by have := h.row.head; omega) (by omega) (by omega) (h.row.found _ ⟨t, by omega, t2⟩)).mono ?_
  rintro e w' ⟨rfl, g', hg', hto⟩
  exact ⟨rfl, g', _, _, hg', hto, Others.sync, rfl, h.row.end_, h.sync _, (syncAll_keeps _ _).2.2.1⟩
theorem c_cut {w0 w : World} {b : Nat} {g : Gh} {st : St} {m : RowM} {n z i0 j : Nat} {all : List UInt8} (hg : RowG w0 w b g st m) (h : RowC n m st z i0 j all) (hn : n ≤ 1048576) (a : Nat) (ha0 : z * i0 ≤ a) (ha1 : a ≤ z * i0 + all.length) (hsy : m.synced ≤ m.end_) :
    Calls Tryz.prog 54 #[.pointer (some ⟨b, 0, none⟩), .int .i64 (a : Int)] w fun e w' => e = .returned (.int .i64 0) ∧ ∃ j', (i0 < j → i0 < j') ∧ (i0 = j → i0 = j') ∧ CTo w0 w b g st m.head n z i0 j' (all.take (a - z * i0)) (min m.synced (a : Int)) w' := by
  have h1 := h.row.size
  have h2 := h.row.beg
  have h3 := h.row.end_
  have h4 := h.row.next
  have h5 := h.row.room
  have h6 := h.row.z1
  have h7 := h.row.z2
  have h8 := h.row.e1
  have h10 := h.row.ij
  have hle0 : z * i0 ≤ z * j := Nat.mul_le_mul_left z h10
  have hh := h.row.head
  obtain ⟨j1, e1, hk1, he0, he1, hae, hend, hhd, hin, hj1, hj2, hsyn, hfd, hot⟩ := h.leave a ha0 ha1
  have hL : ∀ W, RowG w0 W b g st m → Calls Tryz.prog 99 #[.pointer (some ⟨b, 0, none⟩), .int .i64 (a : Int)] W fun e w' => e = .returned (.int .i64 0) ∧ ∃ g', RowG w0 w' b g' (leaveS m st a) (leaveM m a) ∧ RowTo W b g g' w' := fun W hW =>
    leave_any w0 b g st m a n W hW h.row.calm hn (by omega) (by omega) (by omega) (by omega) (by omega) (by omega) (by omega) (by omega) hfd
  by_cases hlt : a < e1
  · obtain ⟨hj3, hz1, hz2⟩ := hin hlt
    obtain ⟨q, rfl⟩ : ∃ q, j1 = q + 1 := ⟨j1 - 1, by omega⟩
    rw [show q + 1 - 1 = q by omega] at hz1 hz2
    have hl1 : (all.take (e1 - z * i0)).length = e1 - z * i0 := by rw [List.length_take]; omega
    obtain ⟨hk2, f, hf, hfl⟩ := hk1.cut a hz1 (by rw [hl1]; omega) (by omega) hz2
    have hsq : z * (q + 1) = z * q + z := Nat.mul_succ z q
    have g1 := hk1.row.size
    have g4 := hk1.row.next
    have g5 := hk1.row.room
    have hlq : (leaveM m a).next - (leaveM m a).size = ((z * q : Nat) : Int) := by omega
    have hlqn : ((leaveM m a).next - (leaveM m a).size).toNat = z * q := by omega
    have hc := cut_mid w0 b g st (leaveS m st a) m (leaveM m a) a n f w hg (by omega) (by omega) (by omega) hL (by omega) hk1.row.calm hn (by omega) (by omega) (by rw [hhd]; omega) (by omega) (by omega) (by omega) (by rw [hlqn]; exact hf) (by rw [hlq]; exact hfl)
    refine hc.mono ?_
    rintro e w' ⟨rfl, g', hg', hto⟩
    rw [hlqn, hlq] at hg'
    have htk : (all.take (e1 - z * i0)).take (a - z * i0) = all.take (a - z * i0) := by rw [List.take_take]; congr 1; omega
    rw [htk] at hk2
    refine ⟨rfl, q + 1, hj1, hj2, g', _, _, hg', hto, hot.trans ?_, hhd, ?_, hk2, ?_⟩
    · rw [hhd]; exact Others.cut
    · show min (leaveM m a).synced (a : Int) = _
      rcases hsyn with ⟨_, hx⟩ | hx
      · rw [hx]
      · rw [hx]; omega
    · have hcp : (leaveS m st a).cap = st.cap := (deleteAll_keeps _ _).2.2
      have hbc : ∀ s : St, (burnS s).cap = s.cap := fun s => by unfold burnS; repeat' (first | rfl | split)
      unfold cutS
      repeat' (first | exact hcp | exact (hbc _).trans hcp | split)
  · have hae2 : a = e1 := by omega
    subst hae2
    have hc := cut_end w0 b g st (leaveS m st a) m (leaveM m a) a w hg (by omega) (by omega) hL (by omega)
    refine hc.mono ?_
    rintro e w' ⟨rfl, g', hg', hto⟩
    refine ⟨rfl, j1, hj1, hj2, g', _, _, hg', hto, hot, hhd, ?_, hk1, (deleteAll_keeps _ _).2.2⟩
    rcases hsyn with ⟨hx, hy⟩ | hx
    · rw [hy]; omega
    · rw [hx]
def COpen (w0 w : World) (g : Gh) (st : St) (H : ByteArray) (n z i0 j : Nat) (all : List UInt8) (e : Ending) (w' : World) : Prop :=
  ∃ b, e = .returned (.tuple #[.pointer (some ⟨b, 0, none⟩), .int .i64 0]) ∧ w.heap.size ≤ b ∧ ∃ g' m', RowG w0 w' b g' st m' ∧ Gh.To w g g' w' ∧ m'.head = H ∧ m'.synced = ((z * i0 : Nat) : Int) ∧ RowC n m' st z i0 j all
theorem c_open {w0 w : World} {d : Nat} {g : Gh} {st : St} {m : RowM} {n z i0 j : Nat} {all : List UInt8} (hd : DiskG w0 w d g st) (ht : Tab10 w0) (h : RowC n m st z i0 j all) (hn : n ≤ 1048576) :
    Calls Tryz.prog 51 #[.pointer (some ⟨d, 0, none⟩), .string m.head, .int .i64 (z : Int)] w (COpen w0 w g st m.head n z i0 j all) := by
  obtain ⟨h1, h2, h3⟩ := h.open_
  have h6 := h.row.z1
  have h7 := h.row.z2
  have hc := open_calm w0 g st m.head z n w hd.disk hd.chg hd.low ht h.row.calm hn h.nm (by omega) (by omega)
  rw [hd.d, h2] at hc
  refine hc.mono ?_
  rintro e w' ⟨b, rfl, hb, g', hg', hto⟩
  refine ⟨b, rfl, hb, g', _, hg', hto, h3, ?_, h1⟩
  show (openX st m.head z).1.begin_ = _
  exact h1.row.beg
theorem c_read_in {w0 w : World} {b : Nat} {g : Gh} {st : St} {m : RowM} {n z i0 j : Nat} {all : List UInt8} (k1 : RowG w0 w b g st m) (k6 : RowC n m st z i0 j all) (a k : Nat) (hk : 0 < k) (h1 : z * i0 ≤ a) (h2 : a + k ≤ z * i0 + all.length) (h3 : k ≤ z - a % z) :
    Calls Tryz.prog 45 #[.pointer (some ⟨b, 0, none⟩), .int .i64 a, .int .i64 k] w fun e w' => e = .returned (.tuple #[.string ⟨((all.drop (a - z * i0)).take k).toArray⟩, .int .i64 0]) ∧ Below w.heap.size w w' := by
  have a1 := k6.row.end_
  have a2 := k6.row.beg
  have a3 := k6.row.size
  have a4 := k6.row.z1
  have a5 := k6.row.z2
  have a6 := k6.row.e1
  have a7 := k6.row.room
  have hdm := Nat.div_add_mod a z
  have hml := Nat.mod_lt a (show 0 < z by omega)
  obtain ⟨i, hi⟩ : ∃ i, i = a / z := ⟨_, rfl⟩
  rw [← hi] at hdm
  have hi0 : i0 ≤ i := by rw [hi]; exact (Nat.le_div_iff_mul_le (by omega)).2 (by rw [Nat.mul_comm]; exact h1)
  have hij : i < j := by rw [hi]; exact (Nat.div_lt_iff_lt_mul (by omega)).2 (by rw [Nat.mul_comm]; omega)
  have hzi : z * i0 ≤ z * i := Nat.mul_le_mul_left z hi0
  obtain ⟨f, hf, hfb⟩ := k6.ch i hi0 hij
  have hfl : f.bytes.length = min z (all.length - (z * i - z * i0)) := by rw [hfb, List.length_take, List.length_drop]
  have hmod : (a : Int) % (z : Int) = ((a % z : Nat) : Int) := (Int.natCast_emod a z).symm
  have hleft : (k : Int) ≤ leftR m a := by
    unfold leftR
    rw [a1, a2, a3, hmod]
    split <;> omega
  have hc := rread_ok w0 b g st m a k (z * i) f w k1 k6.row.calm.down (by omega) (by omega) (by omega) (by omega) (by have := k6.row.head; omega) hk hleft (by rw [a3, hmod]; omega) hf (by omega) (by omega)
  have hb : ((f.bytes.drop (a - z * i)).take k) = (all.drop (a - z * i0)).take k := by
    rw [hfb, List.drop_take, List.take_take, List.drop_drop, show min k (z - (a - z * i)) = k from by omega, show z * i - z * i0 + (a - z * i) = a - z * i0 from by omega]
  rw [hb] at hc
  exact hc
end Go.Proofs.YtdnhgodfmjapmaaGreatDoor
