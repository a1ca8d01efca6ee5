/-
  The contract of Rename.
-/
import Derived.Test.YtmoehmclcegmnaaDCutD
namespace Go.Proofs.Ytmoehmclcegmnaa
open Go.RowKit Go.Deep

def moveS (st : St) (a b : ByteArray) (f : FileM) : St := { removeS st b with fs := dropF (dropF st.fs b) a ++ [(b, f)] }
def renameE (st : St) (a : ByteArray) : Int := if st.down = true then 8 else match st.find a with | none => 9 | some _ => burnE st
def renameS (st : St) (a b : ByteArray) : St := if st.down = true then st else match st.find a with
  | none => st
  | some f => if burnE st = 0 then (if a = b then burnS st else moveS (burnS st) a b f) else burnS st

/-- A file's name is another. -/
def named (e : Ent) (b : ByteArray) : Ent := { e with name := b }
theorem named_name (e : Ent) (b : ByteArray) : (named e b).name = b := rfl
theorem named_blk (e : Ent) (b : ByteArray) : (named e b).blk = e.blk := rfl
theorem EntAt.named {w : World} {e : Ent} (h : EntAt w e) (b : ByteArray) : EntAt w (named e b) := ⟨h.head, h.image, h.bytes, h.writes, h.apart⟩
theorem without_mem {es : List Ent} {nm : ByteArray} {e : Ent} (he : e ∈ es) (hn : e.name ≠ nm) : e ∈ without es nm := List.mem_filter.2 ⟨he, by simp [hn]⟩
theorem without_get {es : List Ent} (nm : ByteArray) : getE (without es nm) nm = none := by
  unfold getE
  rw [List.find?_eq_none]
  intro e he
  have := (List.mem_filter.1 he).2
  simpa using this
theorem getE_without {es : List Ent} {nm b : ByteArray} (h : getE es nm = none) : getE (without es b) nm = none := by
  unfold getE
  rw [List.find?_eq_none]
  intro e he
  have := getE_none h e (List.mem_filter.1 he).1
  simpa using this
/-- Its blocks are none of the others'. -/
theorem apart_without {w : World} {g : Gh} {st : St} (h : DiskAt w g st) {e : Ent} (he : e ∈ g.es) : ∀ k ∈ e.foot, k ∉ ({ g with es := without g.es e.name } : Gh).fp := by
  obtain ⟨l1, l2, hes⟩ := List.append_of_mem he
  have hap := (fp_perm g hes).nodup_iff.1 h.apart
  intro k hk hx
  refine (List.nodup_append.1 hap).2.2 k hk k ?_ rfl
  unfold rest
  unfold Gh.fp at hx
  simp only [List.mem_cons, List.mem_append, List.mem_flatMap] at hx ⊢
  rcases hx with hx | hx | ⟨x, hx, hkx⟩
  · exact .inl hx
  · exact .inr (.inl hx)
  · refine .inr (.inr ⟨x, ?_, hkx⟩)
    obtain ⟨hxm, hxn⟩ := List.mem_filter.1 hx
    rw [hes] at hxm
    rcases List.mem_append.1 hxm with h1 | h1
    · exact .inl h1
    · rcases List.mem_cons.1 h1 with rfl | h1
      · simp at hxn
      · exact .inr h1

set_option maxHeartbeats 4000000 in
set_option maxRecDepth 100000 in
theorem rename_any (g : Gh) (st : St) (a b : ByteArray) (w : World) (h : DiskAt w g st) (hma : a.size ≤ maxLen) (hmb : b.size ≤ maxLen) (hf : FuseOk st) (hc : st.size ≤ 16777216) (hz : SizeOk st) (hn : st.fs.length ≤ 1099511627776) :
    Calls Try.prog 29 #[.pointer (some ⟨g.d, 0, none⟩), .string a, .string b] w (OpTo g (renameE st a) (renameS st a b) w) := by
  cases hq : st.down with
  | true =>
    have hk : readyE st [a] = 8 := by unfold readyE; rw [if_pos hq]
    have HC := Lib.hid (find_err g st a w h hma 8 hk rfl)
    have HQ := Lib.hid hq
    have HG := Lib.hid h
    clear h hq hk hf hz
    go_enter Try.func29, Try.ntmps29
    go_wp2_with (go_at_call 25; refine HC.out.mono ?_; rintro e w' ⟨rfl, hb⟩)
    go_ret
    exact OpTo.err HG.out hb (by unfold renameE; rw [if_pos HQ.out]) (by unfold renameS; rw [if_pos HQ.out])
  | false =>
    have hq' : ¬ st.down = true := by rw [hq]; simp
    cases hg : getE g.es a with
    | none =>
      have hfd := h.find a
      rw [hg] at hfd
      have HF : Hid (st.find a = none) := hfd.symm
      have hk : readyE st [a] = 9 := by rw [readyE_one, if_neg hq', if_neg (by rw [HF.out]; simp)]
      have HC := Lib.hid (find_err g st a w h hma 9 hk rfl)
      have HQ := Lib.hid hq'
      have HG := Lib.hid h
      clear h hq hk hg hfd hq' hf hz
      go_enter Try.func29, Try.ntmps29
      go_wp2_with (go_at_call 25; refine HC.out.mono ?_; rintro e w' ⟨rfl, hb⟩)
      go_ret
      exact OpTo.err HG.out hb (by unfold renameE; rw [if_neg HQ.out, HF.out]) (by unfold renameS; rw [if_neg HQ.out, HF.out])
    | some e0 =>
      have hfd := h.find a
      rw [hg] at hfd
      have HF : Hid (st.find a = some e0.f) := hfd.symm
      have HC := Lib.hid (find_ok g st a w h hma hq e0 hg)
      unfold pk at HC
      have HQ := Lib.hid hq'
      have HG := Lib.hid h
      have HGE := Lib.hid (getE_mem hg)
      have HFU := Lib.hid hf
      have HZ := Lib.hid hz
      clear h hq hg hfd hq' hf hz
      have hE1 : renameE st a = burnE st := by unfold renameE; rw [if_neg HQ.out, HF.out]
      have hS1 : renameS st a b = if burnE st = 0 then (if a = b then burnS st else moveS (burnS st) a b e0.f) else burnS st := by unfold renameS; rw [if_neg HQ.out, HF.out]
      rw [hE1, hS1]
      clear hE1 hS1
      obtain ⟨k, hk⟩ : ∃ k, k = burnE st := ⟨_, rfl⟩
      have hk8 := burn_k st
      rw [← hk] at hk8 ⊢
      have HK := Lib.hid hk
      clear hk
      rcases hk8 with rfl | rfl
      · rw [if_pos rfl]
        by_cases hab : a = b
        · subst hab
          rw [if_pos rfl]
          have hse : (a.toList == a.toList) = true := by simp
          go_enter Try.func29, Try.ntmps29
          go_wp2_with (first
                  | (go_at_call 25; refine HC.out.mono ?_; rintro e w1 ⟨rfl, hb⟩)
                  | (go_at_call 24; refine (burn_to HK.out (burn_any g st _ (HG.out.new (Chg.of_below hb)) HFU.out.1 HFU.out.2)).mono ?_; rintro e w3 ⟨rfl, hd3, ht3⟩))
          go_ret
          exact ⟨rfl, g, hd3, (Gh.To.new g (Chg.of_below hb)).trans ht3⟩
        · rw [if_neg hab]
          have hne : ¬ a.toList = b.toList := fun e => hab (name_eq (by rw [ByteArray.toList_eq, ByteArray.toList_eq] at e; exact e))
          have hse : (a.toList == b.toList) = false := by simpa using hne
          have HAB := Lib.hid hab
          clear hab
          go_enter Try.func29, Try.ntmps29
          go_wp2_with (first
                  | (go_at_call 25; refine HC.out.mono ?_; rintro e w1 ⟨rfl, hb⟩)
                  | (go_at_call 24; refine (burn_to HK.out (burn_any g st _ (HG.out.new (Chg.of_below hb)) HFU.out.1 HFU.out.2)).mono ?_; rintro e w3 ⟨rfl, hd3, ht3⟩)
                  | (go_at_call 42; refine (remove_any g (burnS st) b _ hd3 hmb (HZ.out.burn.len b) (by rw [burnS_size]; exact hc)).mono ?_))
          have HT3 := Lib.hid ((Gh.To.new g (Chg.of_below hb)).trans ht3)
          clear ht3 hd3
          rintro e w4 ⟨rfl, hd4, ht4⟩
          have HD4 := Lib.hid hd4
          have HT4 := Lib.hid (HT3.out.trans ht4)
          have c6 := hd4.cells.2.2.2.2.2.2.1
          simp only at c6
          clear hd4 ht4
          go_wp2_with (with_reducible refine wpList_drop_ent rfl (.tmp 35) (.tmp 36) rfl g.mb (without g.es b) a rfl rfl HD4.out.map hma ?c1)
          case c1 =>
            intro w5 hm5 hg5
            have hd5 := HD4.out.drop a hm5 hg5
            have HD5 := Lib.hid hd5.1
            have HT5 := Lib.hid (HT4.out.trans hd5.2)
            have c6' := hd5.1.cells.2.2.2.2.2.2.1
            simp only at c6'
            have hex : e0 ∈ without g.es b := without_mem HGE.out.1 (by rw [HGE.out.2]; exact HAB.out)
            have hE5 : EntAt w5 e0 := by
              refine (HD4.out.ents e0 hex).chg (Chg.of_grown (S := fun k => some k = g.mb) hg5 (fun k hk _ => hk.symm)) (fun k hk hx => ?_)
              have hap := HD4.out.apart
              unfold Gh.fp at hap
              rw [List.nodup_cons, List.nodup_append] at hap
              refine hap.2.2.2 k ?_ k (List.mem_flatMap.2 ⟨e0, hex, hk⟩) rfl
              simp only
              rw [← hx]; simp
            have HE5 := Lib.hid hE5
            have HX := Lib.hid hex
            have hmap : ∃ m, g.mb = some m := by
              cases hq : g.mb with
              | none =>
                have h2 := HG.out.map.2
                rw [hq] at h2
                have h3 := HGE.out.1
                rw [show g.es = [] from h2] at h3
                cases h3
              | some m => exact ⟨m, rfl⟩
            obtain ⟨m, hmm⟩ := hmap
            rw [hmm] at c6'
            have HMM := Lib.hid hmm
            have hlen : (without (without g.es b) a).length < maxLen := by
              have h1 := congrArg List.length HG.out.fs
              rw [List.length_map] at h1
              have h2 : (without (without g.es b) a).length ≤ g.es.length := Nat.le_trans (List.length_filter_le _ _) (List.length_filter_le _ _)
              unfold maxLen
              omega
            have HLEN := Lib.hid hlen
            clear c6 hd5 hm5 hg5 hE5 hex hmm hlen
            go_wp2_with (with_reducible refine wpList_store_ent rfl (.tmp 40) (.tmp 41) (.tmp 42) rfl m (without (without g.es b) a) b e0.blk (named e0 b) rfl rfl rfl (named_name _ _) (named_blk _ _) ?c2 hmb (getE_without (without_get b)) HLEN.out ?c3)
            case c2 =>
              have := HD5.out.map
              simp only at this
              rw [HMM.out] at this
              exact this
            case c3 =>
              intro w6 hm6 hg6
              have hcm := HD5.out.come HMM.out hm6 hg6 (HE5.out.named b) (by
                have := apart_without HD4.out HX.out
                rw [HGE.out.2] at this
                exact this)
              have HCM := Lib.hid hcm
              clear hcm hm6 hg6
              go_wp2_with fail
              go_ret
              have hs5 := HT5.out.chg.size
              refine ⟨rfl, _, HCM.out.1, ⟨HT5.out.chg.trans HCM.out.2 (fun k hk hx => ?_), fun k hk => ?_, HT5.out.d⟩⟩
              · rcases HT5.out.fp k hx with h1 | h1
                · exact h1
                · omega
              · have e1 : (Gh.mk g.d g.mb (without (without g.es b) a ++ [named e0 b])).fp = (Gh.mk g.d g.mb (without (without g.es b) a)).fp ++ (named e0 b).foot := by
                  unfold Gh.fp
                  rw [List.flatMap_append]
                  simp
                rcases List.mem_append.1 (e1 ▸ hk) with h1 | h1
                · exact HT5.out.fp k h1
                · exact .inl (mem_fp_ent g HGE.out.1 h1)
      · rw [if_neg (by decide)]
        go_enter Try.func29, Try.ntmps29
        go_wp2_with (first
                  | (go_at_call 25; refine HC.out.mono ?_; rintro e w1 ⟨rfl, hb⟩)
                  | (go_at_call 24; refine (burn_to HK.out (burn_any g st _ (HG.out.new (Chg.of_below hb)) HFU.out.1 HFU.out.2)).mono ?_; rintro e w3 ⟨rfl, hd3, ht3⟩))
        go_ret
        exact ⟨rfl, g, hd3, (Gh.To.new g (Chg.of_below hb)).trans ht3⟩
end Go.Proofs.Ytmoehmclcegmnaa
