/- A part. -/
import Derived.StillTailTactics
import Derived.Test.YtkmmbpdiljgkgaaTte16
set_option linter.unusedVariables false
set_option linter.unusedSimpArgs false
namespace Go.Proofs.Ytkmmbpdiljgkgaa
open Go.RowKit Go.Deep
def removeS (st : St) (nm : ByteArray) : St := { st with size := st.size - st.len nm, fs := dropF st.fs nm }
def RemoveTo (g : Gh) (st : St) (nm : ByteArray) (w : World) (e : Ending) (w' : World) : Prop :=
  e = .returned (.tuple #[]) ∧ DiskAt w' { g with es := without g.es nm } (removeS st nm) ∧ Gh.To w g { g with es := without g.es nm } w'
set_option maxHeartbeats 1000000 in
set_option maxRecDepth 100000 in
theorem remove_any (g : Gh) (st : St) (nm : ByteArray) (w : World) (h : DiskAt w g st) (hm : nm.size ≤ maxLen) (hl : st.len nm ≤ st.size) (hs : st.size ≤ 16777216) :
    Calls Try.prog 64 #[.pointer (some ⟨g.d, 0, none⟩), .string nm] w (RemoveTo g st nm w) := by
  obtain ⟨c0, c1, c2, c3, c4, c5, c6, hz⟩ := h.cells
  have z4 := hz 4
  have H := Lib.hid h
  obtain ⟨n, hn⟩ : ∃ n, n = st.len nm := ⟨_, rfl⟩
  rw [← hn] at hl
  have hc : ∀ w', DiskAt w' g st → Calls Try.prog 63 #[.pointer (some ⟨g.d, 0, none⟩), .string nm] w' fun e w'' => e = .returned (.int .i64 n) ∧ w' = w'' := fun w' h' => hn ▸ len_any g st nm w' h' hm
  have hw : IntKind.i64.wrap ((st.size : Int) - (n : Int)) = (st.size : Int) - n := IntWalk.i64_in _ (by omega)
  have HC := Lib.hid hc
  have HN := Lib.hid hn
  clear hz h hc hn
  go_enter Try.func64, Try.ntmps64
  go_wp2_with fail
  go_still_tail 10, (by kernel_rfl)
  still_call ((HC.out _ H.out.drew).mono fun _ _ h => ⟨h.1, h.2.symm⟩)
  repeat still_step
  refine wpStill_nil ?_
  change wpList _ _ _ _ _ w.drew
  clear c0 c1 c2 c3 c4 c5
  have hd := H.out.drew
  have hT := Gh.To.new g (Chg.refl (fun _ => False) w).drew
  generalize w.drew = w2 at hd hT ⊢
  have c4 := hd.cells.2.2.2.2.1
  have z4' := hd.cells.2.2.2.2.2.2.2 4
  have hs2 := hd.set 4 (.int .i64 ((st.size : Int) - n)) { st with size := st.size - n } rfl (by
    rw [show ((st.size : Int) - n) = ((st.size - n : Nat) : Int) by omega]; rfl)
  have e6 := hs2.1.cells.2.2.2.2.2.2.1
  have HS := Lib.hid hs2
  have HT := Lib.hid hT
  clear hd hT hs2 z4 c6
  go_wp2_with (with_reducible refine wpList_drop_ent rfl (.tmp 17) (.tmp 18) rfl g.mb g.es nm rfl rfl HS.out.1.map hm ?c1)
  case c1 =>
    intro w4 hm4 hg4
    have hd4 := HS.out.1.drop nm hm4 hg4
    have HD4 := Lib.hid hd4
    clear hd4 hm4 hg4
    go_wp2_with fail
    go_end0
    refine ⟨rfl, ?_, (HT.out.trans HS.out.2).trans HD4.out.2⟩
    have := HD4.out.1
    unfold removeS
    rw [← HN.out]
    exact this
def deleteE (st : St) (ts : List ByteArray) : Int := if readyE st ts = 0 then burnE st else readyE st ts
def deleteAll (st : St) (ts : List ByteArray) : St := ts.foldl removeS st
def deleteS (st : St) (ts : List ByteArray) : St := if readyE st ts = 0 then (if burnE st = 0 then deleteAll (burnS st) ts else burnS st) else st
theorem deleteAll_snoc (st : St) (ts : List ByteArray) (t : ByteArray) : deleteAll st (ts ++ [t]) = removeS (deleteAll st ts) t := by simp [deleteAll]
def SizeOk (st : St) : Prop := st.size = (st.fs.map fun p => p.2.bytes.length).sum ∧ (st.fs.map (·.1)).Nodup
def lenF (fs : List (ByteArray × FileM)) (nm : ByteArray) : Nat := match (fs.find? fun p => decide (p.1 = nm)).map (·.2) with | none => 0 | some f => f.bytes.length
theorem len_eq (st : St) (nm : ByteArray) : st.len nm = lenF st.fs nm := by unfold St.len lenF St.find; rfl
theorem len_split {fs : List (ByteArray × FileM)} (hn : (fs.map (·.1)).Nodup) (nm : ByteArray) :
    (dropF fs nm |>.map fun p => p.2.bytes.length).sum + lenF fs nm = (fs.map fun p => p.2.bytes.length).sum := by
  induction fs with
  | nil => rfl
  | cons a fs ih =>
    rw [List.map_cons, List.nodup_cons] at hn
    unfold dropF lenF at ih ⊢
    rw [List.filter_cons, List.find?_cons]
    by_cases h : a.1 = nm
    · have hx : ∀ x ∈ fs, (!decide (x.1 = nm)) = true := fun x hx => by
        have : x.1 ≠ nm := fun e => hn.1 (h ▸ e ▸ List.mem_map_of_mem hx)
        simp [this]
      rw [if_neg (by simp [h]), filter_id hx]
      simp [h]
      omega
    · rw [if_pos (by simp [h])]
      have h' : decide (a.1 = nm) = false := by simp [h]
      rw [h']
      have := ih hn.2
      simp only [List.map_cons, List.sum_cons]
      omega
theorem SizeOk.len {st : St} (h : SizeOk st) (nm : ByteArray) : st.len nm ≤ st.size := by
  have := len_split h.2 nm
  rw [len_eq, h.1]
  omega
theorem SizeOk.remove {st : St} (h : SizeOk st) (nm : ByteArray) : SizeOk (removeS st nm) := by
  refine ⟨?_, (List.filter_sublist.map _).nodup h.2⟩
  have := len_split h.2 nm
  have h1 := h.1
  unfold removeS
  simp only
  rw [len_eq]
  omega
theorem removeS_le (st : St) (nm : ByteArray) : (removeS st nm).size ≤ st.size := Nat.sub_le _ _
theorem SizeOk.deleteAll {st : St} (h : SizeOk st) (ts : List ByteArray) : SizeOk (deleteAll st ts) ∧ (deleteAll st ts).size ≤ st.size := by
  unfold Go.Proofs.Ytkmmbpdiljgkgaa.deleteAll
  induction ts generalizing st with
  | nil => exact ⟨h, Nat.le_refl _⟩
  | cons t ts ih =>
    rw [List.foldl_cons]
    have := ih (h.remove t)
    exact ⟨this.1, Nat.le_trans this.2 (removeS_le st t)⟩
theorem SizeOk.burn {st : St} (h : SizeOk st) : SizeOk (burnS st) := by
  unfold SizeOk
  rw [burnS_size, burnS_fs]
  exact h
def Out (g : Gh) (v : Value) : Prop := ∀ b o len cap, v = .slice (some ⟨b, o, none⟩) len cap → 0 < len → b ∉ g.fp
theorem strs_to {w w' : World} {g g' : Gh} {v : Value} {ts : List ByteArray} (hs : Strs w 0 v ts) (ho : Out g v) (ht : Gh.To w g g' w') : Strs w' 0 v ts := by
  obtain ⟨a, cap, rfl, h⟩ := hs
  refine ⟨a, cap, rfl, ?_⟩
  rcases h with h | ⟨b, o, rfl, hb0, h⟩
  · exact .inl h
  · exact .inr ⟨b, o, rfl, hb0, fun i hi => ht.chg.cell (h i hi) (ho b o _ _ rfl (by omega))⟩
set_option maxHeartbeats 1000000 in
set_option maxRecDepth 100000 in
theorem delete_any (g : Gh) (st : St) (v : Value) (ts : List ByteArray) (w : World) (h : DiskAt w g st) (hs : Strs w 0 v ts) (ho : Out g v) (hm : ∀ t ∈ ts, t.size ≤ maxLen) (hl : ts.length ≤ 1099511627776) (hf : FuseOk st) (hz : SizeOk st) (hcap : st.size ≤ 16777216) :
    Calls Try.prog 47 #[.pointer (some ⟨g.d, 0, none⟩), v] w (OpTo g (deleteE st ts) (deleteS st ts) w) := by
  have hr := ready_any g st v ts w h hs hm hl
  obtain ⟨k0, hk0⟩ : ∃ k, k = readyE st ts := ⟨_, rfl⟩
  have hk : k0 = 0 ∨ (k0 == 0) = false := by by_cases h : k0 = 0 <;> simp [h]
  rw [show ReadyTo st ts = fun w e w' => e = .returned (.int .i64 k0) ∧ w = w' from by unfold ReadyTo; rw [← hk0]] at hr
  obtain ⟨a, cap, rfl⟩ := hs.form
  obtain ⟨n, hn⟩ : ∃ n, n = ts.length := ⟨_, rfl⟩
  rw [← hn] at hr hl hs ho ⊢
  have HR := Lib.hid hr
  have HK0 := Lib.hid hk0
  have H := Lib.hid h
  have HS := Lib.hid hs
  have HO := Lib.hid ho
  have HM := Lib.hid hm
  have HN := Lib.hid hn
  have HZ := Lib.hid hz
  clear hr h hs ho hm hn hz hk0
  rcases hk with rfl | hk
  · have hb := burn_any g st w H.out hf.1 hf.2
    obtain ⟨k, hk⟩ : ∃ k, k = burnE st := ⟨_, rfl⟩
    have hk8 := burn_k st
    rw [← hk] at hk8
    have HB := Lib.hid (burn_to hk hb)
    have HK := Lib.hid hk
    clear hb hk hf
    rcases hk8 with rfl | rfl
    · go_enter Try.func47, Try.ntmps47
      go_wp2_with (first | (go_at_call 28; refine HR.out.mono ?_; rintro e w' ⟨rfl, rfl⟩) | (go_at_call 29; refine HB.out.mono ?_; rintro e w1 ⟨rfl, hd1, ht1⟩))
      have HD1 := Lib.hid hd1
      have HT1 := Lib.hid ht1
      clear hd1 ht1
      go_loopw [24] (fun i wr => ∃ k : Nat, k ≤ n ∧ i = .int .i64 k ∧ ∃ g1, DiskAt wr g1 (deleteAll (burnS st) (ts.take k)) ∧ Gh.To w g g1 wr) (fun i _ => n - (intOf i).toNat)
      case atStart => exact ⟨0, Nat.zero_le _, rfl, g, HD1.out, HT1.out⟩
      case round =>
        obtain ⟨k, hk, rfl, g1, hd, ht⟩ := hrel
        have hgd := ht.d
        have hs := strs_to HS.out HO.out ht
        have HD := Lib.hid hd
        have HT := Lib.hid ht
        clear hd ht
        by_cases hlt : k < n
        · have hlt' : k < ts.length := by rw [← HN.out]; exact hlt
          obtain ⟨b, o, hbo, hcell⟩ := (HN.out ▸ hs : Strs wr 0 (.slice a n cap) ts).cellAt hlt'
          obtain ⟨t, ht⟩ : ∃ t, t = ts.getD k ⟨#[]⟩ := ⟨_, rfl⟩
          rw [← ht] at hcell
          subst hbo
          have hmem : t ∈ ts := by rw [ht, List.getD_eq_getElem?_getD, List.getElem?_eq_getElem hlt']; exact List.getElem_mem hlt'
          have htk : ts.take (k + 1) = ts.take k ++ [t] := by rw [take_snoc' ts hlt', ht]
          have hmt := HM.out t hmem
          have hok := (HZ.out.burn).deleteAll (ts.take k)
          rw [burnS_size] at hok
          have hrem := remove_any g1 _ t wr HD.out hmt (hok.1.len t) (Nat.le_trans hok.2 hcap)
          rw [hgd] at hrem
          have HREM := Lib.hid hrem
          have HTK := Lib.hid htk
          have HGD := Lib.hid hgd
          clear hs ht hmem htk hrem hgd hok hmt hlt'
          go_wp2_with (go_at_call 64; refine HREM.out.mono ?_; rintro e w2 ⟨rfl, hd2, ht2⟩)
          have HD2 := Lib.hid hd2
          have HT2 := Lib.hid ht2
          clear hd2 ht2
          go_wp2_with fail
          refine ⟨⟨k + 1, by omega, by go_num, _, ?_, HT.out.trans HT2.out⟩, by simp [intOf]; omega⟩
          rw [HTK.out, deleteAll_snoc]
          exact HD2.out
        · have hkn : k = n := by omega
          have HKN := Lib.hid hkn
          clear hkn hs hgd
          go_wp2_with fail
          go_ret
          have hd := HD.out
          rw [HKN.out, HN.out, List.take_length] at hd
          exact OpTo.congr ⟨rfl, g1, hd, HT.out⟩ (by unfold deleteE; rw [if_pos HK0.out.symm]; exact HK.out) (by unfold deleteS; rw [if_pos HK0.out.symm, if_pos HK.out.symm])
    · go_enter Try.func47, Try.ntmps47
      go_wp2_with (first | (go_at_call 28; refine HR.out.mono ?_; rintro e w' ⟨rfl, rfl⟩) | (go_at_call 29; refine HB.out.mono ?_; rintro e w1 ⟨rfl, hd1, ht1⟩))
      go_ret
      exact OpTo.congr ⟨rfl, g, hd1, ht1⟩ (by unfold deleteE; rw [if_pos HK0.out.symm]; exact HK.out) (by unfold deleteS; rw [if_pos HK0.out.symm, if_neg (by rw [← HK.out]; decide)])
  · have hk2 : (k0 != 0) = true := by simpa using hk
    go_enter Try.func47, Try.ntmps47
    go_wp2_with (go_at_call 28; refine HR.out.mono ?_; rintro e w' ⟨rfl, rfl⟩)
    go_ret
    have hne : ¬ readyE st ts = 0 := by rw [← HK0.out]; simpa using hk
    exact OpTo.congr ⟨rfl, g, H.out, Gh.To.refl _ _⟩ (by unfold deleteE; rw [if_neg hne]; exact HK0.out) (by unfold deleteS; rw [if_neg hne])
theorem names_setF (fs : List (ByteArray × FileM)) (nm : ByteArray) (f : FileM) : (setF fs nm f).map (·.1) = fs.map (·.1) := by
  unfold setF
  rw [List.map_map]
  refine List.map_congr_left fun p _ => ?_
  simp only [Function.comp]
  split <;> simp_all
def AllIn (st : St) (n : Nat) : Prop := ∀ p ∈ st.fs, Within p.2 n
theorem find_mem {st : St} {nm : ByteArray} {f : FileM} (h : st.find nm = some f) : (nm, f) ∈ st.fs := by
  unfold St.find at h
  cases hq : st.fs.find? (fun p => decide (p.1 = nm)) with
  | none => rw [hq] at h; cases h
  | some p =>
    rw [hq] at h
    have h1 := List.mem_of_find?_eq_some hq
    have h2 : decide (p.1 = nm) = true := List.find?_some (p := fun p : ByteArray × FileM => decide (p.1 = nm)) hq
    have h3 := of_decide_eq_true h2
    have h4 : p.2 = f := by simpa using h
    rw [← h3, ← h4]
    exact h1
theorem AllIn.set {st : St} {n : Nat} (h : AllIn st n) {f : FileM} (hf : Within f n) (nm : ByteArray) : AllIn { st with fs := setF st.fs nm f } n := by
  intro p hp
  obtain ⟨q, hq, rfl⟩ := List.mem_map.1 hp
  split
  · exact hf
  · exact h q hq
theorem AllIn.burn {st : St} {n : Nat} (h : AllIn st n) : AllIn (burnS st) n := by
  unfold AllIn
  rw [burnS_fs]
  exact h
def cutF (f : FileM) (n : Nat) : FileM := ⟨(putAll f.image f.writes).take n, f.bytes.take n, []⟩
def cutS (st : St) (nm : ByteArray) (n : Int) : St := if st.down = true then st else match st.find nm with
  | none => st
  | some f => if n < 0 ∨ (f.bytes.length : Int) < n then st else if burnE st = 0 then { burnS st with size := st.size - (f.bytes.length - n.toNat), fs := setF st.fs nm (cutF f n.toNat) } else burnS st
def St.waits (st : St) : Nat := (st.fs.map fun p => p.2.writes.length).sum
def toCome (mb : Option Nat) (w : World) (r : Nat) : Nat := match mb with | none => 0 | some m => w.rangeLeft m r
theorem RangeIn.toCome {w : World} {m r : Nat} {es vis rem : List Ent} {cnt : Nat} (h : RangeIn w (some m) r es vis rem cnt) : toCome (some m) w r = cnt := by
  obtain ⟨_, _, l, left, hr, _⟩ := h
  exact hr.left_eq
theorem RangeIn.perm {w : World} {mb : Option Nat} {r : Nat} {es vis rem : List Ent} {cnt : Nat} (h : RangeIn w mb r es vis rem cnt) : (vis ++ rem).Perm es := by
  cases mb with
  | none => obtain ⟨rfl, rfl, rfl, _⟩ := h; exact List.Perm.refl _
  | some m => exact h.2.1
structure GoodF (n : Nat) (f : FileM) : Prop where
  bytes : f.bytes = putAll f.image f.writes
  image : f.image.length ≤ f.bytes.length
  writes : ∀ x ∈ f.writes, x.at_ + x.s.size ≤ f.bytes.length
  count : f.writes.length ≤ n
def sumB (fs : List (ByteArray × FileM)) : Nat := (fs.map fun p => p.2.bytes.length).sum
structure Good (n : Nat) (st : St) : Prop where
  fuse : FuseOk st
  cap : st.cap ≤ 16777216
  size : st.size ≤ st.cap
  sum : st.size = sumB st.fs
  names : (st.fs.map (·.1)).Nodup
  turn : st.turn ≤ n
  len : st.fs.length ≤ n
  files : ∀ p ∈ st.fs, GoodF n p.2
theorem GoodF.more {n m : Nat} {f : FileM} (h : GoodF n f) (hm : n ≤ m) : GoodF m f := ⟨h.bytes, h.image, h.writes, Nat.le_trans h.count hm⟩
theorem Good.more {n m : Nat} {st : St} (h : Good n st) (hm : n ≤ m) : Good m st :=
  ⟨h.fuse, h.cap, h.size, h.sum, h.names, Nat.le_trans h.turn hm, Nat.le_trans h.len hm, fun p hp => (h.files p hp).more hm⟩
theorem Good.sizeOk {n : Nat} {st : St} (h : Good n st) : SizeOk st := ⟨h.sum, h.names⟩
theorem mem_sumB {fs : List (ByteArray × FileM)} {p : ByteArray × FileM} (h : p ∈ fs) : p.2.bytes.length ≤ sumB fs := by
  obtain ⟨l1, l2, rfl⟩ := List.append_of_mem h
  unfold sumB
  simp only [List.map_append, List.map_cons, List.sum_append_nat, List.sum_cons]
  omega
theorem Good.within {n : Nat} {st : St} (h : Good n st) (hn : n ≤ 1073741824) {p : ByteArray × FileM} (hp : p ∈ st.fs) : Within p.2 1073741824 := by
  have h1 := mem_sumB hp
  have h2 := h.sum
  have h3 := h.size
  have h4 := h.cap
  have hf := h.files p hp
  have h5 := hf.image
  have h6 := hf.count
  refine ⟨by omega, by omega, by omega, fun x hx => ?_⟩
  have := hf.writes x hx
  omega
theorem Good.new (c : Int) : Good 0 (newSt c) := by
  refine ⟨⟨fun h => (by cases h), (by show (0 : Int) ≤ _; omega)⟩, ?_, Nat.zero_le _, rfl, List.nodup_nil, Nat.le_refl _, Nat.le_refl _, fun p hp => (by cases hp)⟩
  show (min (max c 0) 16777216).toNat ≤ 16777216
  omega
theorem FuseOk.burn {st : St} (h : FuseOk st) : FuseOk (burnS st) := by
  unfold burnS
  split
  · rename_i h1
    split
    · exact h
    · rename_i h2
      have h3 := h.1 h1
      have h4 := h.2
      refine ⟨fun _ => ?_, ?_⟩
      · show 0 ≤ st.left - 1
        omega
      · show st.left - 1 ≤ _
        omega
  · exact h
theorem Good.burn {n : Nat} {st : St} (h : Good n st) : Good n (burnS st) := by
  refine ⟨h.fuse.burn, ?_, ?_, ?_, ?_, ?_, ?_, ?_⟩
  · rw [burnS_cap]; exact h.cap
  · rw [burnS_cap, burnS_size]; exact h.size
  · rw [burnS_fs, burnS_size]; exact h.sum
  · rw [burnS_fs]; exact h.names
  · rw [burnS_turn]; exact h.turn
  · rw [burnS_fs]; exact h.len
  · rw [burnS_fs]; exact h.files
theorem goodF_empty (n : Nat) : GoodF n emptyF := ⟨rfl, Nat.le_refl _, fun x hx => (by cases hx), Nat.zero_le _⟩
theorem find_none {fs : List (ByteArray × FileM)} {nm : ByteArray} (h : ¬ (((fs.find? fun p => decide (p.1 = nm)).map (·.2)).isSome = true)) : nm ∉ fs.map (·.1) := fun hx => by
  obtain ⟨p, hp, rfl⟩ := List.mem_map.1 hx
  apply h
  rw [Option.isSome_map, List.find?_isSome]
  exact ⟨p, hp, by simp⟩
theorem Good.create {n : Nat} {st : St} (h : Good n st) (nm : ByteArray) : Good (n + 1) (createS st nm) := by
  unfold createS
  split
  · exact h.more (Nat.le_succ _)
  · split
    · exact h.more (Nat.le_succ _)
    · rename_i hf
      split
      · have hb := h.burn
        refine ⟨hb.fuse, hb.cap, hb.size, ?_, ?_, Nat.le_succ_of_le hb.turn, ?_, ?_⟩
        · show (burnS st).size = sumB (st.fs ++ [(nm, emptyF)])
          rw [burnS_size, h.sum]
          unfold sumB
          simp [emptyF]
        · show ((st.fs ++ [(nm, emptyF)]).map (·.1)).Nodup
          rw [List.map_append, List.nodup_append]
          refine ⟨h.names, by simp, fun a ha b hb' hab => ?_⟩
          simp at hb'
          subst hb'
          subst hab
          exact find_none hf ha
        · show (st.fs ++ [(nm, emptyF)]).length ≤ n + 1
          rw [List.length_append]
          have := h.len
          simp; omega
        · intro p hp
          rcases List.mem_append.1 hp with h1 | h1
          · exact (h.files p h1).more (Nat.le_succ _)
          · simp at h1; subst h1; exact goodF_empty _
      · exact h.burn.more (Nat.le_succ _)
theorem setF_none {fs : List (ByteArray × FileM)} {nm : ByteArray} (f : FileM) (h : nm ∉ fs.map (·.1)) : setF fs nm f = fs := by
  unfold setF
  refine (List.map_congr_left fun p hp => ?_).trans (List.map_id _)
  exact if_neg fun (e : p.1 = nm) => h (e ▸ List.mem_map_of_mem hp)
theorem sumB_cons (p : ByteArray × FileM) (l : List (ByteArray × FileM)) : sumB (p :: l) = p.2.bytes.length + sumB l := rfl
theorem sumB_setF {fs : List (ByteArray × FileM)} {nm : ByteArray} {f : FileM} (f' : FileM) (hn : (fs.map (·.1)).Nodup) (hf : (fs.find? fun p => decide (p.1 = nm)).map (·.2) = some f) :
    sumB (setF fs nm f') + f.bytes.length = sumB fs + f'.bytes.length := by
  induction fs with
  | nil => cases hf
  | cons p l ih =>
    rw [List.map_cons, List.nodup_cons] at hn
    by_cases hp : p.1 = nm
    · rw [List.find?_cons_of_pos (by simp [hp])] at hf
      obtain rfl : p.2 = f := Option.some.inj hf
      have h1 : setF (p :: l) nm f' = (nm, f') :: setF l nm f' := by unfold setF; rw [List.map_cons, if_pos hp]
      rw [h1, setF_none f' (hp ▸ hn.1), sumB_cons, sumB_cons]
      show f'.bytes.length + sumB l + p.2.bytes.length = p.2.bytes.length + sumB l + f'.bytes.length
      omega
    · rw [List.find?_cons_of_neg (by simp [hp])] at hf
      have h1 : setF (p :: l) nm f' = p :: setF l nm f' := by unfold setF; rw [List.map_cons, if_neg hp]
      have := ih hn.2 hf
      rw [h1, sumB_cons, sumB_cons]
      omega
theorem mem_setF {fs : List (ByteArray × FileM)} {nm : ByteArray} {f : FileM} {p : ByteArray × FileM} (h : p ∈ setF fs nm f) : p ∈ fs ∨ p = (nm, f) := by
  obtain ⟨q, hq, rfl⟩ := List.mem_map.1 h
  by_cases hp : q.1 = nm
  · exact .inr (if_pos hp)
  · rw [if_neg hp]; exact .inl hq
theorem Good.set {n m : Nat} {st : St} (h : Good n st) (hm : n ≤ m) {nm : ByteArray} {f f' : FileM} (hf : st.find nm = some f) (hg : GoodF m f') (k t : Nat) (hk : k + f.bytes.length = st.size + f'.bytes.length) (hc : k ≤ st.cap) (ht : t ≤ m) :
    Good m { st with size := k, turn := t, fs := setF st.fs nm f' } := by
  refine ⟨h.fuse, h.cap, hc, ?_, ?_, ht, ?_, ?_⟩
  · show k = sumB (setF st.fs nm f')
    have := sumB_setF f' h.names hf
    have := h.sum
    omega
  · show ((setF st.fs nm f').map (·.1)).Nodup
    rw [names_setF]; exact h.names
  · show (setF st.fs nm f').length ≤ m
    unfold setF
    rw [List.length_map]
    exact Nat.le_trans h.len hm
  · intro p hp
    rcases mem_setF hp with h1 | rfl
    · exact (h.files p h1).more hm
    · exact hg
theorem Good.file {n : Nat} {st : St} (h : Good n st) {nm : ByteArray} {f : FileM} (hf : st.find nm = some f) : GoodF n f := h.files _ (find_mem hf)
theorem text_len (s : ByteArray) : s.data.toList.length = s.size := by rw [Array.length_toList]; rfl
theorem putB_size (b : List UInt8) (a : Nat) (s : ByteArray) (hs : s.size ≠ 0) : (putB b a s.data.toList).length = max b.length (a + s.size) := by
  rw [putB_length _ _ _ (fun e => hs (by rw [← text_len, e]; rfl)), text_len]
theorem GoodF.add {n : Nat} {f : FileM} (h : GoodF n f) (x : WriteM) (hx : x.s.size ≠ 0) : GoodF (n + 1) (addF f x) := by
  have hl := putB_size f.bytes x.at_ x.s hx
  refine ⟨?_, ?_, ?_, ?_⟩
  · show putB f.bytes _ _ = putAll f.image (f.writes ++ [x])
    rw [putAll_snoc, ← h.bytes]
  · show f.image.length ≤ (putB f.bytes _ _).length
    have := h.image
    omega
  · intro y hy
    show _ ≤ (putB f.bytes _ _).length
    rcases List.mem_append.1 hy with h1 | h1
    · have := h.writes y h1
      omega
    · simp at h1; subst h1; omega
  · show (f.writes ++ [x]).length ≤ n + 1
    have := h.count
    simp; omega
theorem burn_find (st : St) (nm : ByteArray) : (burnS st).find nm = st.find nm := by unfold St.find; rw [burnS_fs]
theorem Good.write {n : Nat} {st : St} (h : Good n st) (nm : ByteArray) (a : Int) (s : ByteArray) : Good (n + 1) (writeS st nm a s) := by
  have h0 := h.more (Nat.le_succ n)
  have hb := h0.burn
  unfold writeS
  split
  · exact h0
  · split
    · exact h0
    · rename_i f hf
      split
      · exact h0
      · split
        · exact h0
        · rename_i hr
          split
          · split
            · exact hb
            · rename_i hs
              have hl := putB_size f.bytes a.toNat s hs
              have hlen : (addF f ⟨(st.turn : Int) + 1, a.toNat, s⟩).bytes.length = (putB f.bytes a.toNat s.data.toList).length := rfl
              have h1 := h.size
              unfold Go.Proofs.Ytkmmbpdiljgkgaa.more at hr ⊢
              rw [← burnS_fs st]
              refine h.burn.set (Nat.le_succ n) (f := f) (by rw [burn_find]; exact hf) ((h.file hf).add _ hs) _ _ ?_ ?_ ?_
              · rw [burnS_size, hlen]; omega
              · rw [burnS_cap]; omega
              · exact Nat.succ_le_succ h.turn
          · exact hb
theorem sumB_dropF {fs : List (ByteArray × FileM)} (hn : (fs.map (·.1)).Nodup) (nm : ByteArray) : sumB (dropF fs nm) + lenF fs nm = sumB fs := len_split hn nm
theorem names_dropF (fs : List (ByteArray × FileM)) (nm : ByteArray) (hn : (fs.map (·.1)).Nodup) : ((dropF fs nm).map (·.1)).Nodup ∧ nm ∉ (dropF fs nm).map (·.1) := by
  refine ⟨?_, fun hx => ?_⟩
  · unfold dropF
    exact List.Nodup.sublist ((List.filter_sublist).map _) hn
  · obtain ⟨p, hp, rfl⟩ := List.mem_map.1 hx
    have := (List.mem_filter.1 hp).2
    simp at this
theorem Good.remove {n : Nat} {st : St} (h : Good n st) (nm : ByteArray) : Good n (removeS st nm) := by
  have h1 := sumB_dropF h.names nm
  have h2 := h.sum
  have h3 := h.size
  refine ⟨h.fuse, h.cap, ?_, ?_, (names_dropF _ nm h.names).1, h.turn, ?_, fun p hp => h.files p (List.mem_filter.1 hp).1⟩
  · show st.size - st.len nm ≤ st.cap
    omega
  · show st.size - st.len nm = sumB (dropF st.fs nm)
    rw [len_eq]; omega
  · exact Nat.le_trans (List.length_filter_le _ _) h.len
theorem Good.deleteAll {n : Nat} {st : St} (h : Good n st) (ts : List ByteArray) : Good n (deleteAll st ts) := by
  unfold Go.Proofs.Ytkmmbpdiljgkgaa.deleteAll
  induction ts generalizing st with
  | nil => exact h
  | cons t ts ih => exact ih (h.remove t)
theorem Good.delete {n : Nat} {st : St} (h : Good n st) (ts : List ByteArray) : Good n (deleteS st ts) := by
  unfold deleteS
  split
  · split
    · exact h.burn.deleteAll ts
    · exact h.burn
  · exact h
theorem find_dropF {fs : List (ByteArray × FileM)} {a b : ByteArray} (hab : a ≠ b) : (dropF fs b).find? (fun p => decide (p.1 = a)) = fs.find? (fun p => decide (p.1 = a)) := by
  unfold dropF
  rw [List.find?_filter]
  congr 1
  funext p
  by_cases hp : p.1 = a
  · subst hp; simp [hab]
  · simp [hp]
structure Ease (n : Nat) (st : St) : Prop where
  good : Good n st
  lit : st.lit = false
  down : st.down = false
theorem Ease.burnE {n : Nat} {st : St} (h : Ease n st) : burnE st = 0 := by unfold Go.Proofs.Ytkmmbpdiljgkgaa.burnE; rw [h.lit]; rfl
theorem Ease.burnS {n : Nat} {st : St} (h : Ease n st) : burnS st = st := by unfold Go.Proofs.Ytkmmbpdiljgkgaa.burnS; rw [h.lit]; rfl
theorem Ease.more {n m : Nat} {st : St} (h : Ease n st) (hm : n ≤ m) : Ease m st := ⟨h.good.more hm, h.lit, h.down⟩
theorem Ease.new (c : Int) : Ease 0 (newSt c) := ⟨Good.new c, rfl, rfl⟩
def wS : ByteArray := ⟨#[119, 45, 115, 108, 111, 116, 115]⟩
def wH : ByteArray := ⟨#[119, 45]⟩
def wbytes (L : List Nat) : List UInt8 := L.flatMap (Oc.numB 6)
theorem wbytes_cons (x : Nat) (L : List Nat) : wbytes (x :: L) = Oc.numB 6 x ++ wbytes L := rfl
theorem wbytes_app (A B : List Nat) : wbytes (A ++ B) = wbytes A ++ wbytes B := List.flatMap_append
theorem wbytes_length : ∀ L, (wbytes L).length = 6 * L.length
  | [] => rfl
  | x :: L => by rw [wbytes_cons, List.length_append, Oc.numB_length, wbytes_length L, List.length_cons]; omega
theorem wsplit (L : List Nat) {i : Nat} (h : i < L.length) : L = L.take i ++ L.getD i 0 :: L.drop (i + 1) := by
  rw [List.getD_eq_getElem?_getD, List.getElem?_eq_getElem h]
  show L = L.take i ++ L[i] :: L.drop (i + 1)
  rw [List.getElem_cons_drop, List.take_append_drop]
theorem wbytes_at (L : List Nat) {i : Nat} (h : i < L.length) : ((wbytes L).drop (6 * i)).take 6 = Oc.numB 6 (L.getD i 0) := by
  have e := wsplit L h
  obtain ⟨A, hA⟩ : ∃ A, A = L.take i := ⟨_, rfl⟩
  obtain ⟨x, hx⟩ : ∃ x, x = L.getD i 0 := ⟨_, rfl⟩
  obtain ⟨T, hT⟩ : ∃ T, T = L.drop (i + 1) := ⟨_, rfl⟩
  have hl : A.length = i := by rw [hA, List.length_take]; omega
  rw [← hA, ← hx, ← hT] at e
  rw [← hx, e]
  have h1 := wbytes_length A
  rw [hl] at h1
  rw [wbytes_app, wbytes_cons, ← h1, List.drop_left, List.take_append_of_le_length (by rw [Oc.numB_length]; exact Nat.le_refl _), List.take_of_length_le (by rw [Oc.numB_length]; exact Nat.le_refl _)]
theorem wputB_mid (A M T M' : List UInt8) (h : M'.length = M.length) (h0 : M' ≠ []) : putB (A ++ (M ++ T)) A.length M' = A ++ (M' ++ T) := by
  unfold putB
  rw [if_neg h0]
  have e : A.length + M'.length - (A ++ (M ++ T)).length = 0 := by simp only [List.length_append]; omega
  rw [e, List.replicate_zero, List.append_nil, List.take_left]
  have e2 : (A ++ (M ++ T)).drop (A.length + M'.length) = T := by
    rw [h, ← List.append_assoc, ← List.length_append, List.drop_left]
  rw [e2, List.append_assoc]
theorem wnum_ne (x : Nat) : Oc.numB 6 x ≠ [] := fun hx => by
  have := Oc.numB_length 6 x
  rw [hx] at this; simp at this
theorem wbytes_set (L : List Nat) {i : Nat} (n : Nat) (h : i < L.length) : putB (wbytes L) (6 * i) (Oc.numB 6 n) = wbytes (L.set i n) := by
  have e := wsplit L h
  obtain ⟨A, hA⟩ : ∃ A, A = L.take i := ⟨_, rfl⟩
  obtain ⟨x, hx⟩ : ∃ x, x = L.getD i 0 := ⟨_, rfl⟩
  obtain ⟨T, hT⟩ : ∃ T, T = L.drop (i + 1) := ⟨_, rfl⟩
  have hl : A.length = i := by rw [hA, List.length_take]; omega
  rw [← hA, ← hx, ← hT] at e
  have hs : L.set i n = A ++ n :: T := by rw [e, ← hl, List.set_append_right _ _ (Nat.le_refl _), Nat.sub_self]; rfl
  rw [hs, e]
  have h1 := wbytes_length A
  rw [hl] at h1
  rw [wbytes_app, wbytes_cons, wbytes_app, wbytes_cons, ← h1]
  exact wputB_mid _ _ _ _ (by rw [Oc.numB_length, Oc.numB_length]) (wnum_ne n)
def zeros96 : ByteArray := ⟨(List.replicate 96 (0 : UInt8)).toArray⟩
theorem zeros96_size : zeros96.size = 96 := by decide +kernel
theorem zeros96_bytes : zeros96.data.toList = wbytes (List.replicate 16 0) := by decide +kernel
def wSetE (slot x : Int) : Int := if slot < 0 ∨ 15 < slot then 2 else if x < 0 ∨ 281474976710656 ≤ x then 1 else 0
def wSetL (L : List Nat) (slot x : Int) : List Nat := if wSetE slot x = 0 then L.set slot.toNat x.toNat else L
theorem wSetL_length (L : List Nat) (slot x : Int) : (wSetL L slot x).length = L.length := by unfold wSetL; split <;> simp
theorem wSetL_ok {L : List Nat} {slot x : Int} (h : ∀ y ∈ L, y < 281474976710656) : ∀ y ∈ wSetL L slot x, y < 281474976710656 := by
  unfold wSetL
  split
  · rename_i he
    intro y hy
    rcases List.mem_or_eq_of_mem_set hy with h1 | h1
    · exact h y h1
    · unfold wSetE at he
      split at he
      · cases he
      · split at he
        · cases he
        · omega
  · exact h
theorem ease_writeA {n : Nat} {st : St} (h : Ease n st) {nm : ByteArray} {f : FileM} {a : Nat} {s : ByteArray} (hf : st.find nm = some f) (ha : a ≤ f.bytes.length) (hm : more f a s.size ≤ st.cap - st.size) (h0 : s.size ≠ 0) :
    writeE st nm a s = 0 ∧ writeS st nm a s = { st with size := st.size + more f a s.size, turn := st.turn + 1, fs := setF st.fs nm (addF f ⟨(st.turn : Int) + 1, a, s⟩) } ∧ Ease (n + 1) (writeS st nm a s) := by
  have e2 : writeS st nm a s = { st with size := st.size + more f a s.size, turn := st.turn + 1, fs := setF st.fs nm (addF f ⟨(st.turn : Int) + 1, a, s⟩) } := by
    unfold writeS
    rw [if_neg (by rw [h.down]; simp), hf]
    simp only [Int.toNat_natCast]
    rw [if_neg (by omega), if_neg (by omega), if_pos h.burnE, if_neg h0, h.burnS]
  refine ⟨?_, e2, h.good.write nm a s, by rw [e2]; exact h.lit, by rw [e2]; exact h.down⟩
  unfold writeE
  rw [if_neg (by rw [h.down]; simp), hf]
  simp only [Int.toNat_natCast]
  rw [if_neg (by omega), if_neg (by omega), h.burnE]
theorem wfind_other {st : St} {a b : ByteArray} {f : FileM} {sz tn : Nat} (hab : a ≠ b) : St.find { st with size := sz, turn := tn, fs := setF st.fs b f } a = st.find a := by
  unfold St.find
  have : (setF st.fs b f).find? (fun p => decide (p.1 = a)) = st.fs.find? (fun p => decide (p.1 = a)) := by
    unfold setF
    induction st.fs with
    | nil => rfl
    | cons p l ih =>
      rw [List.map_cons, List.find?_cons, List.find?_cons]
      by_cases hb : p.1 = b
      · rw [if_pos hb]
        have h1 : decide (b = a) = false := decide_eq_false (fun hx => hab hx.symm)
        have h2 : decide (p.1 = a) = false := decide_eq_false (fun hx => hab (hx ▸ hb))
        simp only [h1, h2]
        exact ih
      · rw [if_neg hb]
        cases decide (p.1 = a)
        · exact ih
        · rfl
  show ((setF st.fs b f).find? _).map _ = _
  rw [this]
theorem wfind_same {st : St} {a : ByteArray} {f f' : FileM} {sz tn : Nat} (h : st.find a = some f) : St.find { st with size := sz, turn := tn, fs := setF st.fs a f' } a = some f' := by
  unfold St.find at h ⊢
  show ((setF st.fs a f').find? _).map _ = _
  unfold setF
  generalize st.fs = l at h
  induction l with
  | nil => cases h
  | cons p l ih =>
    rw [List.map_cons, List.find?_cons]
    rw [List.find?_cons] at h
    by_cases hb : p.1 = a
    · rw [if_pos hb]
      simp
    · rw [if_neg hb]
      rw [decide_eq_false hb] at h ⊢
      exact ih h
theorem ease_createF {n : Nat} {st : St} (h : Ease n st) {nm : ByteArray} (hf : st.find nm = none) :
    createE st nm = 0 ∧ createS st nm = { st with fs := st.fs ++ [(nm, emptyF)] } ∧ Ease (n + 1) (createS st nm) := by
  have c1 : createE st nm = 0 := by unfold createE; rw [if_neg (by rw [h.down]; simp), if_neg (by rw [hf]; simp)]; exact h.burnE
  have c2 : createS st nm = { st with fs := st.fs ++ [(nm, emptyF)] } := by unfold createS; rw [if_neg (by rw [h.down]; simp), if_neg (by rw [hf]; simp), if_pos h.burnE, h.burnS]
  exact ⟨c1, c2, h.good.create nm, by rw [c2]; exact h.lit, by rw [c2]; exact h.down⟩
attribute [local go_sem] fr_opt
theorem wpart_text {w : World} {B cap : Nat} {cur : Array Value} {xs : List UInt8} {a k : Nat} (hg : w.heap[B]? = some (.cells cur 5 (0, 0))) (h4 : cur.toList.take xs.length = xs.map by8) (hk : a + k ≤ xs.length) :
    (convert 78 9 (.slice (some ⟨B, a, none⟩) k cap)).run Try.prog w = .ok (.string ⟨((xs.drop a).take k).toArray⟩) w := by
  have hl : ((xs.drop a).take k).length = k := by rw [List.length_take, List.length_drop]; omega
  have := run_convert_bytes_back (P := Try.prog) w 78 9 5 ⟨B, a, none⟩ cap ((xs.drop a).take k) Try.underlying78 Try.underlying5 Try.underlying9 (fun j hj => by
    rw [hl] at hj
    rw [add_none]
    have e1 : (cur.toList.take xs.length)[a + j]? = (xs.map by8)[a + j]? := by rw [h4]
    rw [List.getElem?_take, if_pos (by omega), Array.getElem?_toList, List.getElem?_map, List.getElem?_eq_getElem (by omega)] at e1
    simp [World.cell?, hg, e1, by8])
  rw [hl] at this
  exact this
set_option maxRecDepth 100000 in
theorem wread_ok (g : Gh) (st : St) (nm : ByteArray) (f : FileM) (a k : Nat) (w : World) (h : DiskAt w g st) (hm : nm.size ≤ maxLen) (hq : st.down = false) (hf : st.find nm = some f) (hk : 0 < k) (ha : a + k ≤ f.bytes.length) (hl : f.bytes.length ≤ 1099511627776) :
    Calls Try.prog 31 #[.pointer (some ⟨g.d, 0, none⟩), .string nm, .int .i64 a, .int .i64 k] w fun e w' => e = .returned (.tuple #[.string ⟨((f.bytes.drop a).take k).toArray⟩, .int .i64 0]) ∧ Below w.heap.size w w' := by
  have hf' := h.find nm
  rw [hf] at hf'
  obtain ⟨e0, hg, rfl⟩ : ∃ e0, getE g.es nm = some e0 ∧ e0.f = f := by
    cases hx : getE g.es nm with
    | none => rw [hx] at hf'; cases hf'
    | some e0 => rw [hx] at hf'; exact ⟨e0, rfl, Option.some.inj hf'⟩
  have HC := Lib.hid (find_ok g st nm w h hm hq e0 hg)
  have HE := Lib.hid (h.ents e0 (getE_mem hg).1)
  have hs : IntKind.i64.wrap ((e0.f.bytes.length : Int) - a) = (e0.f.bytes.length : Int) - a := IntWalk.i64_in _ (by omega)
  have hp : IntKind.i64.wrap ((a : Int) + k) = (a : Int) + k := IntWalk.i64_in _ (by omega)
  clear h hq hg hf hf'
  go_enter Try.func31, Try.ntmps31
  go_wp2_with (go_at_call 51; refine HC.out.mono ?_)
  rintro e w' ⟨rfl, hb⟩
  have hE : EntAt w' e0 := HE.out.chg (Chg.of_below (S := fun _ => False) hb) (fun _ _ x => x)
  have k1 := hE.cells.2.1
  rcases hE.bytes.form with ⟨_, h0⟩ | ⟨B, cap, cur, hv, hgB, hcap, hmax, hcs, htk⟩
  · rw [h0] at ha; simp at ha; omega
  · have hct : ∀ c, _ := fun c => wpart_text (cap := c) hgB htk ha
    rw [hv] at k1
    unfold pk
    clear hE hv hgB htk hcs
    go_wp2_with fail
    go_ret2
    exact ⟨rfl, hb⟩
theorem hturn_on (b o : Nat) (x now : Int) (w : World) (hc : w.cell? ⟨b, o, none⟩ = some (.int .i64 x)) (hz : w.frozen? ⟨b, o, none⟩ = false) (h : x < now) (h0 : 0 ≤ x) (hn : now ≤ 9223372036854775807) :
    Calls Try.prog 43 #[.pointer (some ⟨b, o, none⟩), .int .i64 now] w fun e w' => e = .returned (.bool true) ∧ w' = w.setCell ⟨b, o, none⟩ (.int .i64 (x + 1)) := by
  have hd : decide (now ≤ x) = false := decide_eq_false (by omega)
  have e1 : IntKind.i64.wrap (x + 1) = x + 1 := IntWalk.i64_in _ (by omega)
  have hle : ¬ now ≤ x := by omega
  go_enter Try.func43, Try.ntmps43
  go_wp2_with fail
  go_ret
  exact ⟨rfl, rfl⟩
theorem refuses_any (wb : Nat) (slot : Int) (w : World) : Calls Try.prog 30 #[.pointer (some ⟨wb, 0, none⟩), .int .i64 slot] w fun e w' => e = .returned (.int .i64 (if slot < 0 ∨ 15 < slot then 2 else 0)) ∧ w = w' := by
  by_cases h0 : slot < 0
  · rw [if_pos (Or.inl h0)]
    have g0 : decide (slot < 0) = true := decide_eq_true h0
    go_enter Try.func30, Try.ntmps30
    go_wp2_with fail
    go_ret
    exact ⟨rfl, rfl⟩
  · have g0 : decide (slot < 0) = false := decide_eq_false h0
    by_cases h1 : 15 < slot
    · rw [if_pos (Or.inr h1)]
      have g1 : decide (16 ≤ slot) = true := decide_eq_true (by omega)
      have g2 : (16 : Int) ≤ slot := by omega
      go_enter Try.func30, Try.ntmps30
      go_wp2_with fail
      go_ret
      exact ⟨rfl, rfl⟩
    · rw [if_neg (by omega)]
      have g1 : decide (16 ≤ slot) = false := decide_eq_false (by omega)
      have g2 : ¬ (16 : Int) ≤ slot := by omega
      go_enter Try.func30, Try.ntmps30
      go_wp2_with fail
      go_ret
      exact ⟨rfl, rfl⟩
end Go.Proofs.Ytkmmbpdiljgkgaa
namespace Go.Proofs.Ytkmmbpdiljgkgaa
open Go.RowKit Go.Deep
attribute [local go_sem] fr_opt
structure WhI (w0 w : World) (wb : Nat) (g : Gh) (st : St) (n : Nat) (hd : Int) (L : List Nat) : Prop where
  disk : DiskAt w g st
  chg : Chg (fun _ => False) w0 w
  glow : ∀ k ∈ g.fp, w0.heap.size ≤ k
  ease : Ease n st
  cell : w.heap[wb]? = some (.cells #[.pointer (some ⟨g.d, 0, none⟩), .int .i64 hd] 55 (0, 0))
  low : w0.heap.size ≤ wb
  out : wb ∉ g.fp
  file : ∃ f, st.find wS = some f ∧ f.bytes = wbytes L
  len : L.length = 16
  ok : ∀ x ∈ L, x < 281474976710656
structure WTo (wb : Nat) (w : World) (g g' : Gh) (w' : World) : Prop where
  chg : Chg (fun q => q = wb ∨ q ∈ g.fp) w w'
  fp : ∀ q ∈ g'.fp, q ∈ g.fp ∨ w.heap.size ≤ q
  d : g'.d = g.d
theorem WTo.of {wb : Nat} {w : World} {g g' : Gh} {w' : World} (h : Gh.To w g g' w') : WTo wb w g g' w' := ⟨h.chg.wide (fun _ _ x => .inr x), h.fp, h.d⟩
theorem WTo.new {wb : Nat} {w w' : World} (g : Gh) (hc : Chg (fun _ => False) w w') : WTo wb w g g w' := ⟨hc.wide (fun _ _ x => x.elim), fun _ h => .inl h, rfl⟩
theorem WTo.trans {wb : Nat} {w w1 w2 : World} {g g1 g2 : Gh} (h : WTo wb w g g1 w1) (k : WTo wb w1 g1 g2 w2) : WTo wb w g g2 w2 := by
  have hs := h.chg.size
  refine ⟨h.chg.trans k.chg (fun i hi hx => ?_), fun i hi => ?_, k.d.trans h.d⟩
  · rcases hx with hx | hx
    · exact .inl hx
    · rcases h.fp i hx with h1 | h1
      · exact .inr h1
      · omega
  · rcases k.fp i hi with h1 | h1
    · exact h.fp i h1
    · exact .inr (by omega)
theorem WhI.lt {w0 w : World} {wb : Nat} {g : Gh} {st : St} {n : Nat} {hd : Int} {L : List Nat} (h : WhI w0 w wb g st n hd L) : wb < w.heap.size := (Array.getElem?_eq_some_iff.1 h.cell).1
theorem WhI.chgd {w0 w w' : World} {S : Nat → Prop} {wb : Nat} {g : Gh} {st : St} {n : Nat} {hd : Int} {L : List Nat} (h : WhI w0 w wb g st n hd L) (hc : Chg S w w') (hx : ¬ S wb) (hS : ∀ q ∈ g.fp, ¬ S q) (h0 : ∀ q, q < w0.heap.size → ¬ S q) : WhI w0 w' wb g st n hd L :=
  ⟨h.disk.chg hc hS, h.chg.trans hc (fun i hi hs => h0 i hi hs), h.glow, h.ease, hc.heap h.cell hx, h.low, h.out, h.file, h.len, h.ok⟩
theorem WhI.new {w0 w w' : World} {wb : Nat} {g : Gh} {st : St} {n : Nat} {hd : Int} {L : List Nat} (h : WhI w0 w wb g st n hd L) (hc : Chg (fun _ => False) w w') : WhI w0 w' wb g st n hd L := h.chgd hc (fun x => x) (fun _ _ x => x) (fun _ _ x => x)
theorem WhI.cells {w0 w : World} {wb : Nat} {g : Gh} {st : St} {n : Nat} {hd : Int} {L : List Nat} (h : WhI w0 w wb g st n hd L) : w.cell? ⟨wb, 0, none⟩ = some (.pointer (some ⟨g.d, 0, none⟩)) ∧ w.cell? ⟨wb, 1, none⟩ = some (.int .i64 hd) ∧ ∀ i, w.frozen? ⟨wb, i, none⟩ = false := by
  have h := h.cell
  refine ⟨?_, ?_, fun i => ?_⟩ <;> simp [World.cell?, World.frozen?, h]
theorem WhI.below {w0 w : World} {wb : Nat} {g : Gh} {st : St} {n : Nat} {hd : Int} {L : List Nat} (h : WhI w0 w wb g st n hd L) : Below w0.heap.size w0 w := h.chg.below (fun _ _ e => e.elim) (Nat.le_refl _)
theorem WhI.turned {w0 w : World} {wb : Nat} {g : Gh} {st : St} {n : Nat} {hd : Int} {L : List Nat} (h : WhI w0 w wb g st n hd L) (x : Int) :
    WhI w0 (w.setCell ⟨wb, 1, none⟩ (.int .i64 x)) wb g st n x L ∧ Chg (fun q => q = wb) w (w.setCell ⟨wb, 1, none⟩ (.int .i64 x)) := by
  have hset : Chg (fun q => q = wb) w (w.setCell ⟨wb, 1, none⟩ (.int .i64 x)) := Chg.setCell (S := fun q => q = wb) (p := ⟨wb, 1, none⟩) (Chg.refl _ _) (fun _ => rfl) _
  refine ⟨⟨h.disk.chg hset (fun q hq hx => h.out (hx ▸ hq)), h.chg.trans hset (fun i hi hx => by have := h.low; omega), h.glow, h.ease, ?_, h.low, h.out, h.file, h.len, h.ok⟩, hset⟩
  exact heap_setCell_same w wb 1 _ _ (.int .i64 x) h.cell
theorem hand_any {w0 w : World} {wb : Nat} {g : Gh} {st : St} {n : Nat} {hd : Int} {L : List Nat} (h : WhI w0 w wb g st n hd L) :
    Calls Try.prog 25 #[.pointer (some ⟨wb, 0, none⟩)] w fun e w' => e = .returned (.int .i64 hd) ∧ w = w' := by
  obtain ⟨c0, c1, hz⟩ := h.cells
  clear h c0 hz
  go_enter Try.func25, Try.ntmps25
  go_wp2_with fail
  go_ret
  exact ⟨rfl, rfl⟩
theorem turn_on {w0 w : World} {wb : Nat} {g : Gh} {st : St} {n : Nat} {hd : Int} {L : List Nat} (h : WhI w0 w wb g st n hd L) (now : Int) (hlt : hd < now) (h0 : 0 ≤ hd) (hn : now ≤ 9223372036854775807) :
    Calls Try.prog 23 #[.pointer (some ⟨wb, 0, none⟩), .int .i64 now] w fun e w' => e = .returned (.tuple #[.int .i64 (hd + 1), .bool true]) ∧ WhI w0 w' wb g st n (hd + 1) L ∧ Chg (fun q => q = wb) w w' := by
  obtain ⟨c0, c1, hz⟩ := h.cells
  obtain ⟨r1, r2⟩ := h.turned (hd + 1)
  have HT := Lib.hid (hturn_on wb 1 hd now w c1 (hz 1) hlt h0 hn)
  have k1 : (w.setCell ⟨wb, 1, none⟩ (.int .i64 (hd + 1))).cell? ⟨wb, 1, none⟩ = some (.int .i64 (hd + 1)) := r1.cells.2.1
  obtain ⟨W1, hW1⟩ : ∃ W, W = w.setCell ⟨wb, 1, none⟩ (.int .i64 (hd + 1)) := ⟨_, rfl⟩
  rw [← hW1] at HT r1 r2 k1
  have HR := Lib.hid (And.intro r1 r2)
  clear h hz r1 r2 hW1 hlt h0 hn c0
  obtain ⟨x, hx⟩ : ∃ x, x = hd + 1 := ⟨_, rfl⟩
  rw [← hx] at HR k1 ⊢
  clear hx
  go_enter Try.func23, Try.ntmps23
  go_wp2_with fail
  refine HT.out.mono ?_
  rintro e w1 ⟨rfl, rfl⟩
  go_wp2_with fail
  go_ret2
  exact ⟨rfl, HR.out⟩
end Go.Proofs.Ytkmmbpdiljgkgaa
