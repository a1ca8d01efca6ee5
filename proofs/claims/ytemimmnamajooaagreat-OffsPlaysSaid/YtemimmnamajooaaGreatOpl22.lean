/- A part. -/
import Derived.StillTailTactics
import Derived.Test.YtemimmnamajooaaGreatOpl21
set_option linter.unusedVariables false
set_option linter.unusedSimpArgs false
namespace Go.Proofs.YtemimmnamajooaaGreat
open Go.RowKit Go.Deep
def removeS (st : St) (nm : ByteArray) : St := { st with size := st.size - st.len nm, fs := dropF st.fs nm }
def RemoveTo (g : Gh) (st : St) (nm : ByteArray) (w : World) (e : Ending) (w' : World) : Prop :=
  e = .returned (.tuple #[]) ∧ DiskAt w' { g with es := without g.es nm } (removeS st nm) ∧ Gh.To w g { g with es := without g.es nm } w'
set_option maxHeartbeats 1000000 in
set_option maxRecDepth 100000 in
theorem remove_any (g : Gh) (st : St) (nm : ByteArray) (w : World) (h : DiskAt w g st) (hm : nm.size ≤ maxLen) (hl : st.len nm ≤ st.size) (hs : st.size ≤ 16777216) :
    Calls Tryz.prog 99 #[.pointer (some ⟨g.d, 0, none⟩), .string nm] w (RemoveTo g st nm w) := by
  obtain ⟨c0, c1, c2, c3, c4, c5, c6, hz⟩ := h.cells
  have z4 := hz 4
  have H := Lib.hid h
  obtain ⟨n, hn⟩ : ∃ n, n = st.len nm := ⟨_, rfl⟩
  rw [← hn] at hl
  have hc : ∀ w', DiskAt w' g st → Calls Tryz.prog 114 #[.pointer (some ⟨g.d, 0, none⟩), .string nm] w' fun e w'' => e = .returned (.int .i64 n) ∧ w' = w'' := fun w' h' => hn ▸ len_any g st nm w' h' hm
  have hw : IntKind.i64.wrap ((st.size : Int) - (n : Int)) = (st.size : Int) - n := IntWalk.i64_in _ (by omega)
  have HC := Lib.hid hc
  have HN := Lib.hid hn
  clear hz h hc hn
  go_enter Tryz.func99, Tryz.ntmps99
  go_wp2_with fail
  go_still_tail 10, (by kernel_rfl)
  still_call ((HC.out _ H.out.drew).mono fun _ _ h => ⟨h.1, h.2.symm⟩)
  repeat still_step
  refine wpStill_nil ?_
  change wpList _ _ _ _ _ w.drew
  clear c0 c1 c2 c3 c4 c5
  have hd := H.out.drew
  have hT := Gh.To.new g (Chg.refl (fun _ => False) w).drew
  generalize w.drew = w2 at hd hT ⊢
  have c4 := hd.cells.2.2.2.2.1
  have z4' := hd.cells.2.2.2.2.2.2.2 4
  have hs2 := hd.set 4 (.int .i64 ((st.size : Int) - n)) { st with size := st.size - n } rfl (by
    rw [show ((st.size : Int) - n) = ((st.size - n : Nat) : Int) by omega]; rfl)
  have e6 := hs2.1.cells.2.2.2.2.2.2.1
  have HS := Lib.hid hs2
  have HT := Lib.hid hT
  clear hd hT hs2 z4 c6
  go_wp2_with (with_reducible refine wpList_drop_ent rfl (.tmp 17) (.tmp 18) rfl g.mb g.es nm rfl rfl HS.out.1.map hm ?c1)
  case c1 =>
    intro w4 hm4 hg4
    have hd4 := HS.out.1.drop nm hm4 hg4
    have HD4 := Lib.hid hd4
    clear hd4 hm4 hg4
    go_wp2_with fail
    go_end0
    refine ⟨rfl, ?_, (HT.out.trans HS.out.2).trans HD4.out.2⟩
    have := HD4.out.1
    unfold removeS
    rw [← HN.out]
    exact this
def deleteE (st : St) (ts : List ByteArray) : Int := if readyE st ts = 0 then burnE st else readyE st ts
def deleteAll (st : St) (ts : List ByteArray) : St := ts.foldl removeS st
def deleteS (st : St) (ts : List ByteArray) : St := if readyE st ts = 0 then (if burnE st = 0 then deleteAll (burnS st) ts else burnS st) else st
theorem deleteAll_snoc (st : St) (ts : List ByteArray) (t : ByteArray) : deleteAll st (ts ++ [t]) = removeS (deleteAll st ts) t := by simp [deleteAll]
def SizeOk (st : St) : Prop := st.size = (st.fs.map fun p => p.2.bytes.length).sum ∧ (st.fs.map (·.1)).Nodup
def lenF (fs : List (ByteArray × FileM)) (nm : ByteArray) : Nat := match (fs.find? fun p => decide (p.1 = nm)).map (·.2) with | none => 0 | some f => f.bytes.length
theorem len_eq (st : St) (nm : ByteArray) : st.len nm = lenF st.fs nm := by unfold St.len lenF St.find; rfl
theorem len_split {fs : List (ByteArray × FileM)} (hn : (fs.map (·.1)).Nodup) (nm : ByteArray) :
    (dropF fs nm |>.map fun p => p.2.bytes.length).sum + lenF fs nm = (fs.map fun p => p.2.bytes.length).sum := by
  induction fs with
  | nil => rfl
  | cons a fs ih =>
    rw [List.map_cons, List.nodup_cons] at hn
    unfold dropF lenF at ih ⊢
    rw [List.filter_cons, List.find?_cons]
    by_cases h : a.1 = nm
    · have hx : ∀ x ∈ fs, (!decide (x.1 = nm)) = true := fun x hx => by
        have : x.1 ≠ nm := fun e => hn.1 (h ▸ e ▸ List.mem_map_of_mem hx)
        simp [this]
      rw [if_neg (by simp [h]), filter_id hx]
      simp [h]
      omega
    · rw [if_pos (by simp [h])]
      have h' : decide (a.1 = nm) = false := by simp [h]
      rw [h']
      have := ih hn.2
      simp only [List.map_cons, List.sum_cons]
      omega
theorem SizeOk.len {st : St} (h : SizeOk st) (nm : ByteArray) : st.len nm ≤ st.size := by
  have := len_split h.2 nm
  rw [len_eq, h.1]
  omega
theorem SizeOk.remove {st : St} (h : SizeOk st) (nm : ByteArray) : SizeOk (removeS st nm) := by
  refine ⟨?_, (List.filter_sublist.map _).nodup h.2⟩
  have := len_split h.2 nm
  have h1 := h.1
  unfold removeS
  simp only
  rw [len_eq]
  omega
theorem removeS_le (st : St) (nm : ByteArray) : (removeS st nm).size ≤ st.size := Nat.sub_le _ _
theorem SizeOk.deleteAll {st : St} (h : SizeOk st) (ts : List ByteArray) : SizeOk (deleteAll st ts) ∧ (deleteAll st ts).size ≤ st.size := by
  unfold Go.Proofs.YtemimmnamajooaaGreat.deleteAll
  induction ts generalizing st with
  | nil => exact ⟨h, Nat.le_refl _⟩
  | cons t ts ih =>
    rw [List.foldl_cons]
    have := ih (h.remove t)
    exact ⟨this.1, Nat.le_trans this.2 (removeS_le st t)⟩
theorem SizeOk.burn {st : St} (h : SizeOk st) : SizeOk (burnS st) := by
  unfold SizeOk
  rw [burnS_size, burnS_fs]
  exact h
def Out (g : Gh) (v : Value) : Prop := ∀ b o len cap, v = .slice (some ⟨b, o, none⟩) len cap → 0 < len → b ∉ g.fp
theorem strs_to {w w' : World} {g g' : Gh} {v : Value} {ts : List ByteArray} (hs : Strs w 0 v ts) (ho : Out g v) (ht : Gh.To w g g' w') : Strs w' 0 v ts := by
  obtain ⟨a, cap, rfl, h⟩ := hs
  refine ⟨a, cap, rfl, ?_⟩
  rcases h with h | ⟨b, o, rfl, hb0, h⟩
  · exact .inl h
  · exact .inr ⟨b, o, rfl, hb0, fun i hi => ht.chg.cell (h i hi) (ho b o _ _ rfl (by omega))⟩
set_option maxHeartbeats 1000000 in
set_option maxRecDepth 100000 in
theorem delete_any (g : Gh) (st : St) (v : Value) (ts : List ByteArray) (w : World) (h : DiskAt w g st) (hs : Strs w 0 v ts) (ho : Out g v) (hm : ∀ t ∈ ts, t.size ≤ maxLen) (hl : ts.length ≤ 1099511627776) (hf : FuseOk st) (hz : SizeOk st) (hcap : st.size ≤ 16777216) :
    Calls Tryz.prog 97 #[.pointer (some ⟨g.d, 0, none⟩), v] w (OpTo g (deleteE st ts) (deleteS st ts) w) := by
  have hr := ready_any g st v ts w h hs hm hl
  obtain ⟨k0, hk0⟩ : ∃ k, k = readyE st ts := ⟨_, rfl⟩
  have hk : k0 = 0 ∨ (k0 == 0) = false := by by_cases h : k0 = 0 <;> simp [h]
  rw [show ReadyTo st ts = fun w e w' => e = .returned (.int .i64 k0) ∧ w = w' from by unfold ReadyTo; rw [← hk0]] at hr
  obtain ⟨a, cap, rfl⟩ := hs.form
  obtain ⟨n, hn⟩ : ∃ n, n = ts.length := ⟨_, rfl⟩
  rw [← hn] at hr hl hs ho ⊢
  have HR := Lib.hid hr
  have HK0 := Lib.hid hk0
  have H := Lib.hid h
  have HS := Lib.hid hs
  have HO := Lib.hid ho
  have HM := Lib.hid hm
  have HN := Lib.hid hn
  have HZ := Lib.hid hz
  clear hr h hs ho hm hn hz hk0
  rcases hk with rfl | hk
  · have hb := burn_any g st w H.out hf.1 hf.2
    obtain ⟨k, hk⟩ : ∃ k, k = burnE st := ⟨_, rfl⟩
    have hk8 := burn_k st
    rw [← hk] at hk8
    have HB := Lib.hid (burn_to hk hb)
    have HK := Lib.hid hk
    clear hb hk hf
    rcases hk8 with rfl | rfl
    · go_enter Tryz.func97, Tryz.ntmps97
      go_wp2_with (first | (go_at_call 42; refine HR.out.mono ?_; rintro e w' ⟨rfl, rfl⟩) | (go_at_call 43; refine HB.out.mono ?_; rintro e w1 ⟨rfl, hd1, ht1⟩))
      have HD1 := Lib.hid hd1
      have HT1 := Lib.hid ht1
      clear hd1 ht1
      go_loopw [24] (fun i wr => ∃ k : Nat, k ≤ n ∧ i = .int .i64 k ∧ ∃ g1, DiskAt wr g1 (deleteAll (burnS st) (ts.take k)) ∧ Gh.To w g g1 wr) (fun i _ => n - (intOf i).toNat)
      case atStart => exact ⟨0, Nat.zero_le _, rfl, g, HD1.out, HT1.out⟩
      case round =>
        obtain ⟨k, hk, rfl, g1, hd, ht⟩ := hrel
        have hgd := ht.d
        have hs := strs_to HS.out HO.out ht
        have HD := Lib.hid hd
        have HT := Lib.hid ht
        clear hd ht
        by_cases hlt : k < n
        · have hlt' : k < ts.length := by rw [← HN.out]; exact hlt
          obtain ⟨b, o, hbo, hcell⟩ := (HN.out ▸ hs : Strs wr 0 (.slice a n cap) ts).cellAt hlt'
          obtain ⟨t, ht⟩ : ∃ t, t = ts.getD k ⟨#[]⟩ := ⟨_, rfl⟩
          rw [← ht] at hcell
          subst hbo
          have hmem : t ∈ ts := by rw [ht, List.getD_eq_getElem?_getD, List.getElem?_eq_getElem hlt']; exact List.getElem_mem hlt'
          have htk : ts.take (k + 1) = ts.take k ++ [t] := by rw [take_snoc' ts hlt', ht]
          have hmt := HM.out t hmem
          have hok := (HZ.out.burn).deleteAll (ts.take k)
          rw [burnS_size] at hok
          have hrem := remove_any g1 _ t wr HD.out hmt (hok.1.len t) (Nat.le_trans hok.2 hcap)
          rw [hgd] at hrem
          have HREM := Lib.hid hrem
          have HTK := Lib.hid htk
          have HGD := Lib.hid hgd
          clear hs ht hmem htk hrem hgd hok hmt hlt'
          go_wp2_with (go_at_call 99; refine HREM.out.mono ?_; rintro e w2 ⟨rfl, hd2, ht2⟩)
          have HD2 := Lib.hid hd2
          have HT2 := Lib.hid ht2
          clear hd2 ht2
          go_wp2_with fail
          refine ⟨⟨k + 1, by omega, by go_num, _, ?_, HT.out.trans HT2.out⟩, by simp [intOf]; omega⟩
          rw [HTK.out, deleteAll_snoc]
          exact HD2.out
        · have hkn : k = n := by omega
          have HKN := Lib.hid hkn
          clear hkn hs hgd
          go_wp2_with fail
          go_ret
          have hd := HD.out
          rw [HKN.out, HN.out, List.take_length] at hd
          exact OpTo.congr ⟨rfl, g1, hd, HT.out⟩ (by unfold deleteE; rw [if_pos HK0.out.symm]; exact HK.out) (by unfold deleteS; rw [if_pos HK0.out.symm, if_pos HK.out.symm])
    · go_enter Tryz.func97, Tryz.ntmps97
      go_wp2_with (first | (go_at_call 42; refine HR.out.mono ?_; rintro e w' ⟨rfl, rfl⟩) | (go_at_call 43; refine HB.out.mono ?_; rintro e w1 ⟨rfl, hd1, ht1⟩))
      go_ret
      exact OpTo.congr ⟨rfl, g, hd1, ht1⟩ (by unfold deleteE; rw [if_pos HK0.out.symm]; exact HK.out) (by unfold deleteS; rw [if_pos HK0.out.symm, if_neg (by rw [← HK.out]; decide)])
  · have hk2 : (k0 != 0) = true := by simpa using hk
    go_enter Tryz.func97, Tryz.ntmps97
    go_wp2_with (go_at_call 42; refine HR.out.mono ?_; rintro e w' ⟨rfl, rfl⟩)
    go_ret
    have hne : ¬ readyE st ts = 0 := by rw [← HK0.out]; simpa using hk
    exact OpTo.congr ⟨rfl, g, H.out, Gh.To.refl _ _⟩ (by unfold deleteE; rw [if_neg hne]; exact HK0.out) (by unfold deleteS; rw [if_neg hne])
def sync1 (st : St) (nm : ByteArray) : St := match st.find nm with | none => st | some f => { st with fs := setF st.fs nm (syncF f) }
def syncAll (st : St) (ts : List ByteArray) : St := ts.foldl sync1 st
def syncE (st : St) (ts : List ByteArray) : Int := deleteE st ts
def syncS (st : St) (ts : List ByteArray) : St := if readyE st ts = 0 then (if burnE st = 0 then syncAll (burnS st) ts else burnS st) else st
theorem syncAll_snoc (st : St) (ts : List ByteArray) (t : ByteArray) : syncAll st (ts ++ [t]) = sync1 (syncAll st ts) t := by simp [syncAll]
theorem names_setF (fs : List (ByteArray × FileM)) (nm : ByteArray) (f : FileM) : (setF fs nm f).map (·.1) = fs.map (·.1) := by
  unfold setF
  rw [List.map_map]
  refine List.map_congr_left fun p _ => ?_
  simp only [Function.comp]
  split <;> simp_all
theorem find_isSome (st : St) (nm : ByteArray) : (st.find nm).isSome = true ↔ nm ∈ st.fs.map (·.1) := by
  unfold St.find
  rw [Option.isSome_map, List.find?_isSome]
  constructor
  · rintro ⟨x, hx, hn⟩
    exact List.mem_map.2 ⟨x, hx, of_decide_eq_true hn⟩
  · intro h
    obtain ⟨x, hx, hn⟩ := List.mem_map.1 h
    exact ⟨x, hx, decide_eq_true hn⟩
theorem sync1_names (st : St) (nm : ByteArray) : (sync1 st nm).fs.map (·.1) = st.fs.map (·.1) := by
  unfold sync1
  split
  · rfl
  · exact names_setF _ _ _
theorem syncAll_names (st : St) (ts : List ByteArray) : (syncAll st ts).fs.map (·.1) = st.fs.map (·.1) := by
  unfold syncAll
  induction ts generalizing st with
  | nil => rfl
  | cons t ts ih => rw [List.foldl_cons, ih, sync1_names]
def AllIn (st : St) (n : Nat) : Prop := ∀ p ∈ st.fs, Within p.2 n
theorem find_mem {st : St} {nm : ByteArray} {f : FileM} (h : st.find nm = some f) : (nm, f) ∈ st.fs := by
  unfold St.find at h
  cases hq : st.fs.find? (fun p => decide (p.1 = nm)) with
  | none => rw [hq] at h; cases h
  | some p =>
    rw [hq] at h
    have h1 := List.mem_of_find?_eq_some hq
    have h2 : decide (p.1 = nm) = true := List.find?_some (p := fun p : ByteArray × FileM => decide (p.1 = nm)) hq
    have h3 := of_decide_eq_true h2
    have h4 : p.2 = f := by simpa using h
    rw [← h3, ← h4]
    exact h1
theorem within_sync {f : FileM} {n : Nat} (h : Within f n) : Within (syncF f) n := ⟨putAll_le _ _ _ h.1 h.2.2.2, h.2.1, Nat.zero_le _, fun x hx => by cases hx⟩
theorem AllIn.set {st : St} {n : Nat} (h : AllIn st n) {f : FileM} (hf : Within f n) (nm : ByteArray) : AllIn { st with fs := setF st.fs nm f } n := by
  intro p hp
  obtain ⟨q, hq, rfl⟩ := List.mem_map.1 hp
  split
  · exact hf
  · exact h q hq
theorem AllIn.sync1 {st : St} {n : Nat} (h : AllIn st n) (nm : ByteArray) : AllIn (sync1 st nm) n := by
  unfold Go.Proofs.YtemimmnamajooaaGreat.sync1
  split
  · exact h
  · rename_i f hf
    exact h.set (within_sync (h _ (find_mem hf))) nm
theorem AllIn.syncAll {st : St} {n : Nat} (h : AllIn st n) (ts : List ByteArray) : AllIn (syncAll st ts) n := by
  unfold Go.Proofs.YtemimmnamajooaaGreat.syncAll
  induction ts generalizing st with
  | nil => exact h
  | cons t ts ih => rw [List.foldl_cons]; exact ih (h.sync1 t)
theorem AllIn.burn {st : St} {n : Nat} (h : AllIn st n) : AllIn (burnS st) n := by
  unfold AllIn
  rw [burnS_fs]
  exact h
set_option maxHeartbeats 1000000 in
set_option maxRecDepth 100000 in
theorem syncd_any (g : Gh) (st : St) (v : Value) (ts : List ByteArray) (w : World) (h : DiskAt w g st) (hs : Strs w 0 v ts) (ho : Out g v) (hm : ∀ t ∈ ts, t.size ≤ maxLen) (hl : ts.length ≤ 1099511627776) (hf : FuseOk st) (hz : AllIn st 1099511627776) :
    Calls Tryz.prog 73 #[.pointer (some ⟨g.d, 0, none⟩), v] w (OpTo g (syncE st ts) (syncS st ts) w) := by
  have hr := ready_any g st v ts w h hs hm hl
  obtain ⟨k0, hk0⟩ : ∃ k, k = readyE st ts := ⟨_, rfl⟩
  have hk : k0 = 0 ∨ (k0 == 0) = false := by by_cases h : k0 = 0 <;> simp [h]
  rw [show ReadyTo st ts = fun w e w' => e = .returned (.int .i64 k0) ∧ w = w' from by unfold ReadyTo; rw [← hk0]] at hr
  obtain ⟨a, cap, rfl⟩ := hs.form
  obtain ⟨n, hn⟩ : ∃ n, n = ts.length := ⟨_, rfl⟩
  rw [← hn] at hr hl hs ho ⊢
  have HR := Lib.hid hr
  have HK0 := Lib.hid hk0
  have H := Lib.hid h
  have HS := Lib.hid hs
  have HO := Lib.hid ho
  have HM := Lib.hid hm
  have HN := Lib.hid hn
  have HZ := Lib.hid hz
  clear hr h hs ho hm hn hz hk0
  rcases hk with rfl | hk
  · have hall : ∀ t ∈ ts, t ∈ st.fs.map (·.1) := fun t ht => by
      have h1 := HK0.out
      unfold readyE at h1
      split at h1
      · cases h1
      · split at h1
        · rename_i h2
          exact (find_isSome st t).1 ((List.all_eq_true.1 h2) t ht)
        · cases h1
    have HALL := Lib.hid hall
    have hb := burn_any g st w H.out hf.1 hf.2
    obtain ⟨k, hk⟩ : ∃ k, k = burnE st := ⟨_, rfl⟩
    have hk8 := burn_k st
    rw [← hk] at hk8
    have HB := Lib.hid (burn_to hk hb)
    have HK := Lib.hid hk
    clear hb hk hf hall
    rcases hk8 with rfl | rfl
    · go_enter Tryz.func73, Tryz.ntmps73
      go_wp2_with (first | (go_at_call 42; refine HR.out.mono ?_; rintro e w' ⟨rfl, rfl⟩) | (go_at_call 43; refine HB.out.mono ?_; rintro e w1 ⟨rfl, hd1, ht1⟩))
      have HD1 := Lib.hid hd1
      have HT1 := Lib.hid ht1
      clear hd1 ht1
      go_loopw [24] (fun i wr => ∃ k : Nat, k ≤ n ∧ i = .int .i64 k ∧ ∃ g1, DiskAt wr g1 (syncAll (burnS st) (ts.take k)) ∧ Gh.To w g g1 wr) (fun i _ => n - (intOf i).toNat)
      case atStart => exact ⟨0, Nat.zero_le _, rfl, g, HD1.out, HT1.out⟩
      case round =>
        obtain ⟨k, hk, rfl, g1, hd, ht⟩ := hrel
        have hgd := ht.d
        have hs := strs_to HS.out HO.out ht
        have HD := Lib.hid hd
        have HT := Lib.hid ht
        by_cases hlt : k < n
        · have hlt' : k < ts.length := by rw [← HN.out]; exact hlt
          obtain ⟨b, o, hbo, hcell⟩ := (HN.out ▸ hs : Strs wr 0 (.slice a n cap) ts).cellAt hlt'
          obtain ⟨t, htt⟩ : ∃ t, t = ts.getD k ⟨#[]⟩ := ⟨_, rfl⟩
          rw [← htt] at hcell
          subst hbo
          have hmem : t ∈ ts := by rw [htt, List.getD_eq_getElem?_getD, List.getElem?_eq_getElem hlt']; exact List.getElem_mem hlt'
          have htk : ts.take (k + 1) = ts.take k ++ [t] := by rw [take_snoc' ts hlt', htt]
          have hmt := HM.out t hmem
          have hlk := hd.map.look t hmt
          have hfs : ((syncAll (burnS st) (ts.take k)).find t).isSome = true := by
            rw [find_isSome, syncAll_names, burnS_fs]
            exact HALL.out t hmem
          obtain ⟨f, hf⟩ := Option.isSome_iff_exists.1 hfs
          obtain ⟨e0, hem, hge, hef, hen⟩ := hd.found hf
          rw [hge] at hlk
          simp only [Option.map_some] at hlk
          have hin : Within e0.f 1099511627776 := by rw [hef]; exact ((HZ.out.burn).syncAll (ts.take k)) _ (find_mem hf)
          have hsy := sync_any e0 wr (hd.ents e0 hem) hin
          have c6 := hd.cells.2.2.2.2.2.2.1
          rw [hgd] at c6
          have HSY := Lib.hid hsy
          have HTK := Lib.hid htk
          have HF := Lib.hid hf
          have HEM := Lib.hid hem
          have HEF := Lib.hid hef
          have HEN := Lib.hid hen
          clear hs htt hmem htk hgd hmt hlt' hsy hf hfs hem hef hen hge hin hd ht
          go_wp2_with (go_at_call 98; refine HSY.out.mono ?_; rintro e w2 ⟨rfl, e1, he1, ht2⟩)
          have hu := HD.out.upd HEM.out ht2
          have HU := Lib.hid hu
          have HE1 := Lib.hid he1
          clear hu he1 ht2
          go_wp2_with fail
          refine ⟨⟨k + 1, by omega, by go_num, _, ?_, HT.out.trans HU.out.2⟩, by simp [intOf]; omega⟩
          rw [HTK.out, syncAll_snoc]
          unfold sync1
          rw [HF.out]
          have := HU.out.1
          rw [HE1.out, HEN.out, HEF.out] at this
          exact this
        · have hkn : k = n := by omega
          have HKN := Lib.hid hkn
          clear hkn hs hgd hd ht
          go_wp2_with fail
          go_ret
          have hd := HD.out
          rw [HKN.out, HN.out, List.take_length] at hd
          exact OpTo.congr ⟨rfl, g1, hd, HT.out⟩ (by unfold syncE deleteE; rw [if_pos HK0.out.symm]; exact HK.out) (by unfold syncS; rw [if_pos HK0.out.symm, if_pos HK.out.symm])
    · go_enter Tryz.func73, Tryz.ntmps73
      go_wp2_with (first | (go_at_call 42; refine HR.out.mono ?_; rintro e w' ⟨rfl, rfl⟩) | (go_at_call 43; refine HB.out.mono ?_; rintro e w1 ⟨rfl, hd1, ht1⟩))
      go_ret
      exact OpTo.congr ⟨rfl, g, hd1, ht1⟩ (by unfold syncE deleteE; rw [if_pos HK0.out.symm]; exact HK.out) (by unfold syncS; rw [if_pos HK0.out.symm, if_neg (by rw [← HK.out]; decide)])
  · have hk2 : (k0 != 0) = true := by simpa using hk
    go_enter Tryz.func73, Tryz.ntmps73
    go_wp2_with (go_at_call 42; refine HR.out.mono ?_; rintro e w' ⟨rfl, rfl⟩)
    go_ret
    have hne : ¬ readyE st ts = 0 := by rw [← HK0.out]; simpa using hk
    exact OpTo.congr ⟨rfl, g, H.out, Gh.To.refl _ _⟩ (by unfold syncE deleteE; rw [if_neg hne]; exact HK0.out) (by unfold syncS; rw [if_neg hne])
def cutF (f : FileM) (n : Nat) : FileM := ⟨(putAll f.image f.writes).take n, f.bytes.take n, []⟩
def cutS (st : St) (nm : ByteArray) (n : Int) : St := if st.down = true then st else match st.find nm with
  | none => st
  | some f => if n < 0 ∨ (f.bytes.length : Int) < n then st else if burnE st = 0 then { burnS st with size := st.size - (f.bytes.length - n.toNat), fs := setF st.fs nm (cutF f n.toNat) } else burnS st
def moveS (st : St) (a b : ByteArray) (f : FileM) : St := { removeS st b with fs := dropF (dropF st.fs b) a ++ [(b, f)] }
def renameE (st : St) (a : ByteArray) : Int := if st.down = true then 8 else match st.find a with | none => 9 | some _ => burnE st
def renameS (st : St) (a b : ByteArray) : St := if st.down = true then st else match st.find a with
  | none => st
  | some f => if burnE st = 0 then (if a = b then burnS st else moveS (burnS st) a b f) else burnS st
def named (e : Ent) (b : ByteArray) : Ent := { e with name := b }
theorem named_name (e : Ent) (b : ByteArray) : (named e b).name = b := rfl
theorem named_blk (e : Ent) (b : ByteArray) : (named e b).blk = e.blk := rfl
theorem EntAt.named {w : World} {e : Ent} (h : EntAt w e) (b : ByteArray) : EntAt w (named e b) := ⟨h.head, h.image, h.bytes, h.writes, h.apart⟩
theorem without_mem {es : List Ent} {nm : ByteArray} {e : Ent} (he : e ∈ es) (hn : e.name ≠ nm) : e ∈ without es nm := List.mem_filter.2 ⟨he, by simp [hn]⟩
theorem without_get {es : List Ent} (nm : ByteArray) : getE (without es nm) nm = none := by
  unfold getE
  rw [List.find?_eq_none]
  intro e he
  have := (List.mem_filter.1 he).2
  simpa using this
theorem getE_without {es : List Ent} {nm b : ByteArray} (h : getE es nm = none) : getE (without es b) nm = none := by
  unfold getE
  rw [List.find?_eq_none]
  intro e he
  have := getE_none h e (List.mem_filter.1 he).1
  simpa using this
theorem apart_without {w : World} {g : Gh} {st : St} (h : DiskAt w g st) {e : Ent} (he : e ∈ g.es) : ∀ k ∈ e.foot, k ∉ ({ g with es := without g.es e.name } : Gh).fp := by
  obtain ⟨l1, l2, hes⟩ := List.append_of_mem he
  have hap := (fp_perm g hes).nodup_iff.1 h.apart
  intro k hk hx
  refine (List.nodup_append.1 hap).2.2 k hk k ?_ rfl
  unfold rest
  unfold Gh.fp at hx
  simp only [List.mem_cons, List.mem_append, List.mem_flatMap] at hx ⊢
  rcases hx with hx | hx | ⟨x, hx, hkx⟩
  · exact .inl hx
  · exact .inr (.inl hx)
  · refine .inr (.inr ⟨x, ?_, hkx⟩)
    obtain ⟨hxm, hxn⟩ := List.mem_filter.1 hx
    rw [hes] at hxm
    rcases List.mem_append.1 hxm with h1 | h1
    · exact .inl h1
    · rcases List.mem_cons.1 h1 with rfl | h1
      · simp at hxn
      · exact .inr h1
set_option maxHeartbeats 4000000 in
set_option maxRecDepth 100000 in
theorem rename_any (g : Gh) (st : St) (a b : ByteArray) (w : World) (h : DiskAt w g st) (hma : a.size ≤ maxLen) (hmb : b.size ≤ maxLen) (hf : FuseOk st) (hc : st.size ≤ 16777216) (hz : SizeOk st) (hn : st.fs.length ≤ 1099511627776) :
    Calls Tryz.prog 75 #[.pointer (some ⟨g.d, 0, none⟩), .string a, .string b] w (OpTo g (renameE st a) (renameS st a b) w) := by
  cases hq : st.down with
  | true =>
    have hk : readyE st [a] = 8 := by unfold readyE; rw [if_pos hq]
    have HC := Lib.hid (find_err g st a w h hma 8 hk rfl)
    have HQ := Lib.hid hq
    have HG := Lib.hid h
    clear h hq hk hf hz
    go_enter Tryz.func75, Tryz.ntmps75
    go_wp2_with (go_at_call 44; refine HC.out.mono ?_; rintro e w' ⟨rfl, hb⟩)
    go_ret
    exact OpTo.err HG.out hb (by unfold renameE; rw [if_pos HQ.out]) (by unfold renameS; rw [if_pos HQ.out])
  | false =>
    have hq' : ¬ st.down = true := by rw [hq]; simp
    cases hg : getE g.es a with
    | none =>
      have hfd := h.find a
      rw [hg] at hfd
      have HF : Hid (st.find a = none) := hfd.symm
      have hk : readyE st [a] = 9 := by rw [readyE_one, if_neg hq', if_neg (by rw [HF.out]; simp)]
      have HC := Lib.hid (find_err g st a w h hma 9 hk rfl)
      have HQ := Lib.hid hq'
      have HG := Lib.hid h
      clear h hq hk hg hfd hq' hf hz
      go_enter Tryz.func75, Tryz.ntmps75
      go_wp2_with (go_at_call 44; refine HC.out.mono ?_; rintro e w' ⟨rfl, hb⟩)
      go_ret
      exact OpTo.err HG.out hb (by unfold renameE; rw [if_neg HQ.out, HF.out]) (by unfold renameS; rw [if_neg HQ.out, HF.out])
    | some e0 =>
      have hfd := h.find a
      rw [hg] at hfd
      have HF : Hid (st.find a = some e0.f) := hfd.symm
      have HC := Lib.hid (find_ok g st a w h hma hq e0 hg)
      unfold pk at HC
      have HQ := Lib.hid hq'
      have HG := Lib.hid h
      have HGE := Lib.hid (getE_mem hg)
      have HFU := Lib.hid hf
      have HZ := Lib.hid hz
      clear h hq hg hfd hq' hf hz
      have hE1 : renameE st a = burnE st := by unfold renameE; rw [if_neg HQ.out, HF.out]
      have hS1 : renameS st a b = if burnE st = 0 then (if a = b then burnS st else moveS (burnS st) a b e0.f) else burnS st := by unfold renameS; rw [if_neg HQ.out, HF.out]
      rw [hE1, hS1]
      clear hE1 hS1
      obtain ⟨k, hk⟩ : ∃ k, k = burnE st := ⟨_, rfl⟩
      have hk8 := burn_k st
      rw [← hk] at hk8 ⊢
      have HK := Lib.hid hk
      clear hk
      rcases hk8 with rfl | rfl
      · rw [if_pos rfl]
        by_cases hab : a = b
        · subst hab
          rw [if_pos rfl]
          have hse : (a.toList == a.toList) = true := by simp
          go_enter Tryz.func75, Tryz.ntmps75
          go_wp2_with (first
                  | (go_at_call 44; refine HC.out.mono ?_; rintro e w1 ⟨rfl, hb⟩)
                  | (go_at_call 43; refine (burn_to HK.out (burn_any g st _ (HG.out.new (Chg.of_below hb)) HFU.out.1 HFU.out.2)).mono ?_; rintro e w3 ⟨rfl, hd3, ht3⟩))
          go_ret
          exact ⟨rfl, g, hd3, (Gh.To.new g (Chg.of_below hb)).trans ht3⟩
        · rw [if_neg hab]
          have hne : ¬ a.toList = b.toList := fun e => hab (name_eq (by rw [ByteArray.toList_eq, ByteArray.toList_eq] at e; exact e))
          have hse : (a.toList == b.toList) = false := by simpa using hne
          have HAB := Lib.hid hab
          clear hab
          go_enter Tryz.func75, Tryz.ntmps75
          go_wp2_with (first
                  | (go_at_call 44; refine HC.out.mono ?_; rintro e w1 ⟨rfl, hb⟩)
                  | (go_at_call 43; refine (burn_to HK.out (burn_any g st _ (HG.out.new (Chg.of_below hb)) HFU.out.1 HFU.out.2)).mono ?_; rintro e w3 ⟨rfl, hd3, ht3⟩)
                  | (go_at_call 99; refine (remove_any g (burnS st) b _ hd3 hmb (HZ.out.burn.len b) (by rw [burnS_size]; exact hc)).mono ?_))
          have HT3 := Lib.hid ((Gh.To.new g (Chg.of_below hb)).trans ht3)
          clear ht3 hd3
          rintro e w4 ⟨rfl, hd4, ht4⟩
          have HD4 := Lib.hid hd4
          have HT4 := Lib.hid (HT3.out.trans ht4)
          have c6 := hd4.cells.2.2.2.2.2.2.1
          simp only at c6
          clear hd4 ht4
          go_wp2_with (with_reducible refine wpList_drop_ent rfl (.tmp 35) (.tmp 36) rfl g.mb (without g.es b) a rfl rfl HD4.out.map hma ?c1)
          case c1 =>
            intro w5 hm5 hg5
            have hd5 := HD4.out.drop a hm5 hg5
            have HD5 := Lib.hid hd5.1
            have HT5 := Lib.hid (HT4.out.trans hd5.2)
            have c6' := hd5.1.cells.2.2.2.2.2.2.1
            simp only at c6'
            have hex : e0 ∈ without g.es b := without_mem HGE.out.1 (by rw [HGE.out.2]; exact HAB.out)
            have hE5 : EntAt w5 e0 := by
              refine (HD4.out.ents e0 hex).chg (Chg.of_grown (S := fun k => some k = g.mb) hg5 (fun k hk _ => hk.symm)) (fun k hk hx => ?_)
              have hap := HD4.out.apart
              unfold Gh.fp at hap
              rw [List.nodup_cons, List.nodup_append] at hap
              refine hap.2.2.2 k ?_ k (List.mem_flatMap.2 ⟨e0, hex, hk⟩) rfl
              simp only
              rw [← hx]; simp
            have HE5 := Lib.hid hE5
            have HX := Lib.hid hex
            have hmap : ∃ m, g.mb = some m := by
              cases hq : g.mb with
              | none =>
                have h2 := HG.out.map.2
                rw [hq] at h2
                have h3 := HGE.out.1
                rw [show g.es = [] from h2] at h3
                cases h3
              | some m => exact ⟨m, rfl⟩
            obtain ⟨m, hmm⟩ := hmap
            rw [hmm] at c6'
            have HMM := Lib.hid hmm
            have hlen : (without (without g.es b) a).length < maxLen := by
              have h1 := congrArg List.length HG.out.fs
              rw [List.length_map] at h1
              have h2 : (without (without g.es b) a).length ≤ g.es.length := Nat.le_trans (List.length_filter_le _ _) (List.length_filter_le _ _)
              unfold maxLen
              omega
            have HLEN := Lib.hid hlen
            clear c6 hd5 hm5 hg5 hE5 hex hmm hlen
            go_wp2_with (with_reducible refine wpList_store_ent rfl (.tmp 40) (.tmp 41) (.tmp 42) rfl m (without (without g.es b) a) b e0.blk (named e0 b) rfl rfl rfl (named_name _ _) (named_blk _ _) ?c2 hmb (getE_without (without_get b)) HLEN.out ?c3)
            case c2 =>
              have := HD5.out.map
              simp only at this
              rw [HMM.out] at this
              exact this
            case c3 =>
              intro w6 hm6 hg6
              have hcm := HD5.out.come HMM.out hm6 hg6 (HE5.out.named b) (by
                have := apart_without HD4.out HX.out
                rw [HGE.out.2] at this
                exact this)
              have HCM := Lib.hid hcm
              clear hcm hm6 hg6
              go_wp2_with fail
              go_ret
              have hs5 := HT5.out.chg.size
              refine ⟨rfl, _, HCM.out.1, ⟨HT5.out.chg.trans HCM.out.2 (fun k hk hx => ?_), fun k hk => ?_, HT5.out.d⟩⟩
              · rcases HT5.out.fp k hx with h1 | h1
                · exact h1
                · omega
              · have e1 : (Gh.mk g.d g.mb (without (without g.es b) a ++ [named e0 b])).fp = (Gh.mk g.d g.mb (without (without g.es b) a)).fp ++ (named e0 b).foot := by
                  unfold Gh.fp
                  rw [List.flatMap_append]
                  simp
                rcases List.mem_append.1 (e1 ▸ hk) with h1 | h1
                · exact HT5.out.fp k h1
                · exact .inl (mem_fp_ent g HGE.out.1 h1)
      · rw [if_neg (by decide)]
        go_enter Tryz.func75, Tryz.ntmps75
        go_wp2_with (first
                  | (go_at_call 44; refine HC.out.mono ?_; rintro e w1 ⟨rfl, hb⟩)
                  | (go_at_call 43; refine (burn_to HK.out (burn_any g st _ (HG.out.new (Chg.of_below hb)) HFU.out.1 HFU.out.2)).mono ?_; rintro e w3 ⟨rfl, hd3, ht3⟩))
        go_ret
        exact ⟨rfl, g, hd3, (Gh.To.new g (Chg.of_below hb)).trans ht3⟩
def waitsE (es : List Ent) : Nat := (es.map fun e => e.f.writes.length).sum
def St.waits (st : St) : Nat := (st.fs.map fun p => p.2.writes.length).sum
theorem waits_eq {w : World} {g : Gh} {st : St} (h : DiskAt w g st) : waitsE g.es = st.waits := by
  unfold waitsE St.waits
  rw [← h.fs, List.map_map]
  rfl
theorem waitsE_perm {a b : List Ent} (h : a.Perm b) : waitsE a = waitsE b := (h.map _).sum_nat
theorem waitsE_append (a b : List Ent) : waitsE (a ++ b) = waitsE a + waitsE b := by simp [waitsE]
def toCome (mb : Option Nat) (w : World) (r : Nat) : Nat := match mb with | none => 0 | some m => w.rangeLeft m r
theorem RangeIn.toCome {w : World} {m r : Nat} {es vis rem : List Ent} {cnt : Nat} (h : RangeIn w (some m) r es vis rem cnt) : toCome (some m) w r = cnt := by
  obtain ⟨_, _, l, left, hr, _⟩ := h
  exact hr.left_eq
theorem RangeIn.perm {w : World} {mb : Option Nat} {r : Nat} {es vis rem : List Ent} {cnt : Nat} (h : RangeIn w mb r es vis rem cnt) : (vis ++ rem).Perm es := by
  cases mb with
  | none => obtain ⟨rfl, rfl, rfl, _⟩ := h; exact List.Perm.refl _
  | some m => exact h.2.1
end Go.Proofs.YtemimmnamajooaaGreat
