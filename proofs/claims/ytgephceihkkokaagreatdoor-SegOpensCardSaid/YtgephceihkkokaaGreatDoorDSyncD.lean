/-
  The contract of Sync.
-/
import Derived.Test.YtgephceihkkokaaGreatDoorDDelete
namespace Go.Proofs.YtgephceihkkokaaGreatDoor
open Go.RowKit Go.Deep

def sync1 (st : St) (nm : ByteArray) : St := match st.find nm with | none => st | some f => { st with fs := setF st.fs nm (syncF f) }
def syncAll (st : St) (ts : List ByteArray) : St := ts.foldl sync1 st
def syncE (st : St) (ts : List ByteArray) : Int := deleteE st ts
def syncS (st : St) (ts : List ByteArray) : St := if readyE st ts = 0 then (if burnE st = 0 then syncAll (burnS st) ts else burnS st) else st
theorem syncAll_snoc (st : St) (ts : List ByteArray) (t : ByteArray) : syncAll st (ts ++ [t]) = sync1 (syncAll st ts) t := by simp [syncAll]

theorem names_setF (fs : List (ByteArray × FileM)) (nm : ByteArray) (f : FileM) : (setF fs nm f).map (·.1) = fs.map (·.1) := by
  unfold setF
  rw [List.map_map]
  refine List.map_congr_left fun p _ => ?_
  simp only [Function.comp]
  split <;> simp_all
theorem find_isSome (st : St) (nm : ByteArray) : (st.find nm).isSome = true ↔ nm ∈ st.fs.map (·.1) := by
  unfold St.find
  rw [Option.isSome_map, List.find?_isSome]
  constructor
  · rintro ⟨x, hx, hn⟩
    exact List.mem_map.2 ⟨x, hx, of_decide_eq_true hn⟩
  · intro h
    obtain ⟨x, hx, hn⟩ := List.mem_map.1 h
    exact ⟨x, hx, decide_eq_true hn⟩
theorem sync1_names (st : St) (nm : ByteArray) : (sync1 st nm).fs.map (·.1) = st.fs.map (·.1) := by
  unfold sync1
  split
  · rfl
  · exact names_setF _ _ _
theorem syncAll_names (st : St) (ts : List ByteArray) : (syncAll st ts).fs.map (·.1) = st.fs.map (·.1) := by
  unfold syncAll
  induction ts generalizing st with
  | nil => rfl
  | cons t ts ih => rw [List.foldl_cons, ih, sync1_names]
/-- All files are within so many bytes. -/
def AllIn (st : St) (n : Nat) : Prop := ∀ p ∈ st.fs, Within p.2 n
theorem find_mem {st : St} {nm : ByteArray} {f : FileM} (h : st.find nm = some f) : (nm, f) ∈ st.fs := by
  unfold St.find at h
  cases hq : st.fs.find? (fun p => decide (p.1 = nm)) with
  | none => rw [hq] at h; cases h
  | some p =>
    rw [hq] at h
    have h1 := List.mem_of_find?_eq_some hq
    have h2 : decide (p.1 = nm) = true := List.find?_some (p := fun p : ByteArray × FileM => decide (p.1 = nm)) hq
    have h3 := of_decide_eq_true h2
    have h4 : p.2 = f := by simpa using h
    rw [← h3, ← h4]
    exact h1
theorem within_sync {f : FileM} {n : Nat} (h : Within f n) : Within (syncF f) n := ⟨putAll_le _ _ _ h.1 h.2.2.2, h.2.1, Nat.zero_le _, fun x hx => by cases hx⟩
theorem AllIn.set {st : St} {n : Nat} (h : AllIn st n) {f : FileM} (hf : Within f n) (nm : ByteArray) : AllIn { st with fs := setF st.fs nm f } n := by
  intro p hp
  obtain ⟨q, hq, rfl⟩ := List.mem_map.1 hp
  split
  · exact hf
  · exact h q hq
theorem AllIn.sync1 {st : St} {n : Nat} (h : AllIn st n) (nm : ByteArray) : AllIn (sync1 st nm) n := by
  unfold Go.Proofs.YtgephceihkkokaaGreatDoor.sync1
  split
  · exact h
  · rename_i f hf
    exact h.set (within_sync (h _ (find_mem hf))) nm
theorem AllIn.syncAll {st : St} {n : Nat} (h : AllIn st n) (ts : List ByteArray) : AllIn (syncAll st ts) n := by
  unfold Go.Proofs.YtgephceihkkokaaGreatDoor.syncAll
  induction ts generalizing st with
  | nil => exact h
  | cons t ts ih => rw [List.foldl_cons]; exact ih (h.sync1 t)
theorem AllIn.burn {st : St} {n : Nat} (h : AllIn st n) : AllIn (burnS st) n := by
  unfold AllIn
  rw [burnS_fs]
  exact h

set_option maxHeartbeats 1000000 in
set_option maxRecDepth 100000 in
theorem syncd_any (g : Gh) (st : St) (v : Value) (ts : List ByteArray) (w : World) (h : DiskAt w g st) (hs : Strs w 0 v ts) (ho : Out g v) (hm : ∀ t ∈ ts, t.size ≤ maxLen) (hl : ts.length ≤ 1099511627776) (hf : FuseOk st) (hz : AllIn st 1099511627776) :
    Calls Tryz.prog 40 #[.pointer (some ⟨g.d, 0, none⟩), v] w (OpTo g (syncE st ts) (syncS st ts) w) := by
  have hr := ready_any g st v ts w h hs hm hl
  obtain ⟨k0, hk0⟩ : ∃ k, k = readyE st ts := ⟨_, rfl⟩
  have hk : k0 = 0 ∨ (k0 == 0) = false := by by_cases h : k0 = 0 <;> simp [h]
  rw [show ReadyTo st ts = fun w e w' => e = .returned (.int .i64 k0) ∧ w = w' from by unfold ReadyTo; rw [← hk0]] at hr
  obtain ⟨a, cap, rfl⟩ := hs.form
  obtain ⟨n, hn⟩ : ∃ n, n = ts.length := ⟨_, rfl⟩
  rw [← hn] at hr hl hs ho ⊢
  have HR := Lib.hid hr
  have HK0 := Lib.hid hk0
  have H := Lib.hid h
  have HS := Lib.hid hs
  have HO := Lib.hid ho
  have HM := Lib.hid hm
  have HN := Lib.hid hn
  have HZ := Lib.hid hz
  clear hr h hs ho hm hn hz hk0
  rcases hk with rfl | hk
  · have hall : ∀ t ∈ ts, t ∈ st.fs.map (·.1) := fun t ht => by
      have h1 := HK0.out
      unfold readyE at h1
      split at h1
      · cases h1
      · split at h1
        · rename_i h2
          exact (find_isSome st t).1 ((List.all_eq_true.1 h2) t ht)
        · cases h1
    have HALL := Lib.hid hall
    have hb := burn_any g st w H.out hf.1 hf.2
    obtain ⟨k, hk⟩ : ∃ k, k = burnE st := ⟨_, rfl⟩
    have hk8 := burn_k st
    rw [← hk] at hk8
    have HB := Lib.hid (burn_to hk hb)
    have HK := Lib.hid hk
    clear hb hk hf hall
    rcases hk8 with rfl | rfl
    · go_enter Tryz.func40, Tryz.ntmps40
      go_wp2_with (first | (go_at_call 50; refine HR.out.mono ?_; rintro e w' ⟨rfl, rfl⟩) | (go_at_call 51; refine HB.out.mono ?_; rintro e w1 ⟨rfl, hd1, ht1⟩))
      have HD1 := Lib.hid hd1
      have HT1 := Lib.hid ht1
      clear hd1 ht1
      go_loopw [24] (fun i wr => ∃ k : Nat, k ≤ n ∧ i = .int .i64 k ∧ ∃ g1, DiskAt wr g1 (syncAll (burnS st) (ts.take k)) ∧ Gh.To w g g1 wr) (fun i _ => n - (intOf i).toNat)
      case atStart => exact ⟨0, Nat.zero_le _, rfl, g, HD1.out, HT1.out⟩
      case round =>
        obtain ⟨k, hk, rfl, g1, hd, ht⟩ := hrel
        have hgd := ht.d
        have hs := strs_to HS.out HO.out ht
        have HD := Lib.hid hd
        have HT := Lib.hid ht
        by_cases hlt : k < n
        · have hlt' : k < ts.length := by rw [← HN.out]; exact hlt
          obtain ⟨b, o, hbo, hcell⟩ := (HN.out ▸ hs : Strs wr 0 (.slice a n cap) ts).cellAt hlt'
          obtain ⟨t, htt⟩ : ∃ t, t = ts.getD k ⟨#[]⟩ := ⟨_, rfl⟩
          rw [← htt] at hcell
          subst hbo
          have hmem : t ∈ ts := by rw [htt, List.getD_eq_getElem?_getD, List.getElem?_eq_getElem hlt']; exact List.getElem_mem hlt'
          have htk : ts.take (k + 1) = ts.take k ++ [t] := by rw [take_snoc' ts hlt', htt]
          have hmt := HM.out t hmem
          have hlk := hd.map.look t hmt
          have hfs : ((syncAll (burnS st) (ts.take k)).find t).isSome = true := by
            rw [find_isSome, syncAll_names, burnS_fs]
            exact HALL.out t hmem
          obtain ⟨f, hf⟩ := Option.isSome_iff_exists.1 hfs
          obtain ⟨e0, hem, hge, hef, hen⟩ := hd.found hf
          rw [hge] at hlk
          simp only [Option.map_some] at hlk
          have hin : Within e0.f 1099511627776 := by rw [hef]; exact ((HZ.out.burn).syncAll (ts.take k)) _ (find_mem hf)
          have hsy := sync_any e0 wr (hd.ents e0 hem) hin
          have c6 := hd.cells.2.2.2.2.2.2.1
          rw [hgd] at c6
          have HSY := Lib.hid hsy
          have HTK := Lib.hid htk
          have HF := Lib.hid hf
          have HEM := Lib.hid hem
          have HEF := Lib.hid hef
          have HEN := Lib.hid hen
          clear hs htt hmem htk hgd hmt hlt' hsy hf hfs hem hef hen hge hin hd ht
          go_wp2_with (go_at_call 66; refine HSY.out.mono ?_; rintro e w2 ⟨rfl, e1, he1, ht2⟩)
          have hu := HD.out.upd HEM.out ht2
          have HU := Lib.hid hu
          have HE1 := Lib.hid he1
          clear hu he1 ht2
          go_wp2_with fail
          refine ⟨⟨k + 1, by omega, by go_num, _, ?_, HT.out.trans HU.out.2⟩, by simp [intOf]; omega⟩
          rw [HTK.out, syncAll_snoc]
          unfold sync1
          rw [HF.out]
          have := HU.out.1
          rw [HE1.out, HEN.out, HEF.out] at this
          exact this
        · have hkn : k = n := by omega
          have HKN := Lib.hid hkn
          clear hkn hs hgd hd ht
          go_wp2_with fail
          go_ret
          have hd := HD.out
          rw [HKN.out, HN.out, List.take_length] at hd
          exact OpTo.congr ⟨rfl, g1, hd, HT.out⟩ (by unfold syncE deleteE; rw [if_pos HK0.out.symm]; exact HK.out) (by unfold syncS; rw [if_pos HK0.out.symm, if_pos HK.out.symm])
    · go_enter Tryz.func40, Tryz.ntmps40
      go_wp2_with (first | (go_at_call 50; refine HR.out.mono ?_; rintro e w' ⟨rfl, rfl⟩) | (go_at_call 51; refine HB.out.mono ?_; rintro e w1 ⟨rfl, hd1, ht1⟩))
      go_ret
      exact OpTo.congr ⟨rfl, g, hd1, ht1⟩ (by unfold syncE deleteE; rw [if_pos HK0.out.symm]; exact HK.out) (by unfold syncS; rw [if_pos HK0.out.symm, if_neg (by rw [← HK.out]; decide)])
  · have hk2 : (k0 != 0) = true := by simpa using hk
    go_enter Tryz.func40, Tryz.ntmps40
    go_wp2_with (go_at_call 50; refine HR.out.mono ?_; rintro e w' ⟨rfl, rfl⟩)
    go_ret
    have hne : ¬ readyE st ts = 0 := by rw [← HK0.out]; simpa using hk
    exact OpTo.congr ⟨rfl, g, H.out, Gh.To.refl _ _⟩ (by unfold syncE deleteE; rw [if_neg hne]; exact HK0.out) (by unfold syncS; rw [if_neg hne])
end Go.Proofs.YtgephceihkkokaaGreatDoor
