/-
  The contracts of Delete and Sync.
-/
import Derived.Test.YtgephceihkkokaaGreatDoorDRemove
namespace Go.Proofs.YtgephceihkkokaaGreatDoor
open Go.RowKit Go.Deep

def deleteE (st : St) (ts : List ByteArray) : Int := if readyE st ts = 0 then burnE st else readyE st ts
def deleteAll (st : St) (ts : List ByteArray) : St := ts.foldl removeS st
def deleteS (st : St) (ts : List ByteArray) : St := if readyE st ts = 0 then (if burnE st = 0 then deleteAll (burnS st) ts else burnS st) else st
theorem deleteAll_snoc (st : St) (ts : List ByteArray) (t : ByteArray) : deleteAll st (ts ++ [t]) = removeS (deleteAll st ts) t := by simp [deleteAll]

/-- What is asked of a state, as far as its size goes. -/
def SizeOk (st : St) : Prop := st.size = (st.fs.map fun p => p.2.bytes.length).sum ∧ (st.fs.map (·.1)).Nodup
def lenF (fs : List (ByteArray × FileM)) (nm : ByteArray) : Nat := match (fs.find? fun p => decide (p.1 = nm)).map (·.2) with | none => 0 | some f => f.bytes.length
theorem len_eq (st : St) (nm : ByteArray) : st.len nm = lenF st.fs nm := by unfold St.len lenF St.find; rfl
theorem len_split {fs : List (ByteArray × FileM)} (hn : (fs.map (·.1)).Nodup) (nm : ByteArray) :
    (dropF fs nm |>.map fun p => p.2.bytes.length).sum + lenF fs nm = (fs.map fun p => p.2.bytes.length).sum := by
  induction fs with
  | nil => rfl
  | cons a fs ih =>
    rw [List.map_cons, List.nodup_cons] at hn
    unfold dropF lenF at ih ⊢
    rw [List.filter_cons, List.find?_cons]
    by_cases h : a.1 = nm
    · have hx : ∀ x ∈ fs, (!decide (x.1 = nm)) = true := fun x hx => by
        have : x.1 ≠ nm := fun e => hn.1 (h ▸ e ▸ List.mem_map_of_mem hx)
        simp [this]
      rw [if_neg (by simp [h]), filter_id hx]
      simp [h]
      omega
    · rw [if_pos (by simp [h])]
      have h' : decide (a.1 = nm) = false := by simp [h]
      rw [h']
      have := ih hn.2
      simp only [List.map_cons, List.sum_cons]
      omega
theorem SizeOk.len {st : St} (h : SizeOk st) (nm : ByteArray) : st.len nm ≤ st.size := by
  have := len_split h.2 nm
  rw [len_eq, h.1]
  omega
theorem SizeOk.remove {st : St} (h : SizeOk st) (nm : ByteArray) : SizeOk (removeS st nm) := by
  refine ⟨?_, (List.filter_sublist.map _).nodup h.2⟩
  have := len_split h.2 nm
  have h1 := h.1
  unfold removeS
  simp only
  rw [len_eq]
  omega
theorem removeS_le (st : St) (nm : ByteArray) : (removeS st nm).size ≤ st.size := Nat.sub_le _ _
theorem SizeOk.deleteAll {st : St} (h : SizeOk st) (ts : List ByteArray) : SizeOk (deleteAll st ts) ∧ (deleteAll st ts).size ≤ st.size := by
  unfold Go.Proofs.YtgephceihkkokaaGreatDoor.deleteAll
  induction ts generalizing st with
  | nil => exact ⟨h, Nat.le_refl _⟩
  | cons t ts ih =>
    rw [List.foldl_cons]
    have := ih (h.remove t)
    exact ⟨this.1, Nat.le_trans this.2 (removeS_le st t)⟩
theorem SizeOk.burn {st : St} (h : SizeOk st) : SizeOk (burnS st) := by
  unfold SizeOk
  rw [burnS_size, burnS_fs]
  exact h

/-- The names lie apart from the disk. -/
def Out (g : Gh) (v : Value) : Prop := ∀ b o len cap, v = .slice (some ⟨b, o, none⟩) len cap → 0 < len → b ∉ g.fp
theorem strs_to {w w' : World} {g g' : Gh} {v : Value} {ts : List ByteArray} (hs : Strs w 0 v ts) (ho : Out g v) (ht : Gh.To w g g' w') : Strs w' 0 v ts := by
  obtain ⟨a, cap, rfl, h⟩ := hs
  refine ⟨a, cap, rfl, ?_⟩
  rcases h with h | ⟨b, o, rfl, hb0, h⟩
  · exact .inl h
  · exact .inr ⟨b, o, rfl, hb0, fun i hi => ht.chg.cell (h i hi) (ho b o _ _ rfl (by omega))⟩

set_option maxHeartbeats 1000000 in
set_option maxRecDepth 100000 in
theorem delete_any (g : Gh) (st : St) (v : Value) (ts : List ByteArray) (w : World) (h : DiskAt w g st) (hs : Strs w 0 v ts) (ho : Out g v) (hm : ∀ t ∈ ts, t.size ≤ maxLen) (hl : ts.length ≤ 1099511627776) (hf : FuseOk st) (hz : SizeOk st) (hcap : st.size ≤ 16777216) :
    Calls Tryz.prog 33 #[.pointer (some ⟨g.d, 0, none⟩), v] w (OpTo g (deleteE st ts) (deleteS st ts) w) := by
  have hr := ready_any g st v ts w h hs hm hl
  obtain ⟨k0, hk0⟩ : ∃ k, k = readyE st ts := ⟨_, rfl⟩
  have hk : k0 = 0 ∨ (k0 == 0) = false := by by_cases h : k0 = 0 <;> simp [h]
  rw [show ReadyTo st ts = fun w e w' => e = .returned (.int .i64 k0) ∧ w = w' from by unfold ReadyTo; rw [← hk0]] at hr
  obtain ⟨a, cap, rfl⟩ := hs.form
  obtain ⟨n, hn⟩ : ∃ n, n = ts.length := ⟨_, rfl⟩
  rw [← hn] at hr hl hs ho ⊢
  have HR := Lib.hid hr
  have HK0 := Lib.hid hk0
  have H := Lib.hid h
  have HS := Lib.hid hs
  have HO := Lib.hid ho
  have HM := Lib.hid hm
  have HN := Lib.hid hn
  have HZ := Lib.hid hz
  clear hr h hs ho hm hn hz hk0
  rcases hk with rfl | hk
  · have hb := burn_any g st w H.out hf.1 hf.2
    obtain ⟨k, hk⟩ : ∃ k, k = burnE st := ⟨_, rfl⟩
    have hk8 := burn_k st
    rw [← hk] at hk8
    have HB := Lib.hid (burn_to hk hb)
    have HK := Lib.hid hk
    clear hb hk hf
    rcases hk8 with rfl | rfl
    · go_enter Tryz.func33, Tryz.ntmps33
      go_wp2_with (first | (go_at_call 50; refine HR.out.mono ?_; rintro e w' ⟨rfl, rfl⟩) | (go_at_call 51; refine HB.out.mono ?_; rintro e w1 ⟨rfl, hd1, ht1⟩))
      have HD1 := Lib.hid hd1
      have HT1 := Lib.hid ht1
      clear hd1 ht1
      go_loopw [24] (fun i wr => ∃ k : Nat, k ≤ n ∧ i = .int .i64 k ∧ ∃ g1, DiskAt wr g1 (deleteAll (burnS st) (ts.take k)) ∧ Gh.To w g g1 wr) (fun i _ => n - (intOf i).toNat)
      case atStart => exact ⟨0, Nat.zero_le _, rfl, g, HD1.out, HT1.out⟩
      case round =>
        obtain ⟨k, hk, rfl, g1, hd, ht⟩ := hrel
        have hgd := ht.d
        have hs := strs_to HS.out HO.out ht
        have HD := Lib.hid hd
        have HT := Lib.hid ht
        clear hd ht
        by_cases hlt : k < n
        · have hlt' : k < ts.length := by rw [← HN.out]; exact hlt
          obtain ⟨b, o, hbo, hcell⟩ := (HN.out ▸ hs : Strs wr 0 (.slice a n cap) ts).cellAt hlt'
          obtain ⟨t, ht⟩ : ∃ t, t = ts.getD k ⟨#[]⟩ := ⟨_, rfl⟩
          rw [← ht] at hcell
          subst hbo
          have hmem : t ∈ ts := by rw [ht, List.getD_eq_getElem?_getD, List.getElem?_eq_getElem hlt']; exact List.getElem_mem hlt'
          have htk : ts.take (k + 1) = ts.take k ++ [t] := by rw [take_snoc' ts hlt', ht]
          have hmt := HM.out t hmem
          have hok := (HZ.out.burn).deleteAll (ts.take k)
          rw [burnS_size] at hok
          have hrem := remove_any g1 _ t wr HD.out hmt (hok.1.len t) (Nat.le_trans hok.2 hcap)
          rw [hgd] at hrem
          have HREM := Lib.hid hrem
          have HTK := Lib.hid htk
          have HGD := Lib.hid hgd
          clear hs ht hmem htk hrem hgd hok hmt hlt'
          go_wp2_with (go_at_call 65; refine HREM.out.mono ?_; rintro e w2 ⟨rfl, hd2, ht2⟩)
          have HD2 := Lib.hid hd2
          have HT2 := Lib.hid ht2
          clear hd2 ht2
          go_wp2_with fail
          refine ⟨⟨k + 1, by omega, by go_num, _, ?_, HT.out.trans HT2.out⟩, by simp [intOf]; omega⟩
          rw [HTK.out, deleteAll_snoc]
          exact HD2.out
        · have hkn : k = n := by omega
          have HKN := Lib.hid hkn
          clear hkn hs hgd
          go_wp2_with fail
          go_ret
          have hd := HD.out
          rw [HKN.out, HN.out, List.take_length] at hd
          exact OpTo.congr ⟨rfl, g1, hd, HT.out⟩ (by unfold deleteE; rw [if_pos HK0.out.symm]; exact HK.out) (by unfold deleteS; rw [if_pos HK0.out.symm, if_pos HK.out.symm])
    · go_enter Tryz.func33, Tryz.ntmps33
      go_wp2_with (first | (go_at_call 50; refine HR.out.mono ?_; rintro e w' ⟨rfl, rfl⟩) | (go_at_call 51; refine HB.out.mono ?_; rintro e w1 ⟨rfl, hd1, ht1⟩))
      go_ret
      exact OpTo.congr ⟨rfl, g, hd1, ht1⟩ (by unfold deleteE; rw [if_pos HK0.out.symm]; exact HK.out) (by unfold deleteS; rw [if_pos HK0.out.symm, if_neg (by rw [← HK.out]; decide)])
  · have hk2 : (k0 != 0) = true := by simpa using hk
    go_enter Tryz.func33, Tryz.ntmps33
    go_wp2_with (go_at_call 50; refine HR.out.mono ?_; rintro e w' ⟨rfl, rfl⟩)
    go_ret
    have hne : ¬ readyE st ts = 0 := by rw [← HK0.out]; simpa using hk
    exact OpTo.congr ⟨rfl, g, H.out, Gh.To.refl _ _⟩ (by unfold deleteE; rw [if_neg hne]; exact HK0.out) (by unfold deleteS; rw [if_neg hne])
end Go.Proofs.YtgephceihkkokaaGreatDoor
