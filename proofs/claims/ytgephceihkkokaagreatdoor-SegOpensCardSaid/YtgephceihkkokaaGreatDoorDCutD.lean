/-
  The contract of Cut.
-/
import Derived.Test.YtgephceihkkokaaGreatDoorDSyncD
namespace Go.Proofs.YtgephceihkkokaaGreatDoor
open Go.RowKit Go.Deep

def cutF (f : FileM) (n : Nat) : FileM := ⟨(putAll f.image f.writes).take n, f.bytes.take n, []⟩
def cutE (st : St) (nm : ByteArray) (n : Int) : Int := if st.down = true then 8 else match st.find nm with
  | none => 9
  | some f => if n < 0 ∨ (f.bytes.length : Int) < n then 2 else burnE st
def cutS (st : St) (nm : ByteArray) (n : Int) : St := if st.down = true then st else match st.find nm with
  | none => st
  | some f => if n < 0 ∨ (f.bytes.length : Int) < n then st else if burnE st = 0 then { burnS st with size := st.size - (f.bytes.length - n.toNat), fs := setF st.fs nm (cutF f n.toNat) } else burnS st

theorem sync_disk {g : Gh} {st : St} {w : World} (h : DiskAt w g st) {e0 : Ent} (he : e0 ∈ g.es) (hin : Within e0.f 1099511627776) :
    Calls Tryz.prog 66 #[.pointer (some ⟨e0.blk, 0, none⟩)] w fun e w' => e = .returned (.tuple #[]) ∧ ∃ e1, e1.f = syncF e0.f ∧ Ent.To w e0 e1 w' :=
  (sync_any e0 w (h.ents e0 he) hin).mono fun _ _ h => h

set_option maxHeartbeats 4000000 in
set_option maxRecDepth 100000 in
theorem cut_any (g : Gh) (st : St) (nm : ByteArray) (n : Int) (w : World) (h : DiskAt w g st) (hm : nm.size ≤ maxLen) (hf : FuseOk st) (hc : st.size ≤ 16777216) (hz : SizeOk st)
    (hfile : ∀ f, st.find nm = some f → Within f 1099511627776 ∧ f.bytes = putAll f.image f.writes) :
    Calls Tryz.prog 42 #[.pointer (some ⟨g.d, 0, none⟩), .string nm, .int .i64 n] w (OpTo g (cutE st nm n) (cutS st nm n) w) := by
  cases hq : st.down with
  | true =>
    have hk : readyE st [nm] = 8 := by unfold readyE; rw [if_pos hq]
    have HC := Lib.hid (find_err g st nm w h hm 8 hk rfl)
    have HQ := Lib.hid hq
    have HG := Lib.hid h
    clear h hq hk hfile hf hz
    go_enter Tryz.func42, Tryz.ntmps42
    go_wp2_with (go_at_call 52; refine HC.out.mono ?_; rintro e w' ⟨rfl, hb⟩)
    go_ret
    exact OpTo.err HG.out hb (by unfold cutE; rw [if_pos HQ.out]) (by unfold cutS; rw [if_pos HQ.out])
  | false =>
    have hq' : ¬ st.down = true := by rw [hq]; simp
    cases hg : getE g.es nm with
    | none =>
      have hfd := h.find nm
      rw [hg] at hfd
      have HF : Hid (st.find nm = none) := hfd.symm
      have hk : readyE st [nm] = 9 := by rw [readyE_one, if_neg hq', if_neg (by rw [HF.out]; simp)]
      have HC := Lib.hid (find_err g st nm w h hm 9 hk rfl)
      have HQ := Lib.hid hq'
      have HG := Lib.hid h
      clear h hq hk hg hfd hq' hfile hf hz
      go_enter Tryz.func42, Tryz.ntmps42
      go_wp2_with (go_at_call 52; refine HC.out.mono ?_; rintro e w' ⟨rfl, hb⟩)
      go_ret
      exact OpTo.err HG.out hb (by unfold cutE; rw [if_neg HQ.out, HF.out]) (by unfold cutS; rw [if_neg HQ.out, HF.out])
    | some e0 =>
      have hfd := h.find nm
      rw [hg] at hfd
      have HF : Hid (st.find nm = some e0.f) := hfd.symm
      have HIN := Lib.hid (hfile e0.f HF.out).1
      have HBY := Lib.hid (hfile e0.f HF.out).2
      have HC := Lib.hid (find_ok g st nm w h hm hq e0 hg)
      unfold pk at HC
      have HQ := Lib.hid hq'
      have HG := Lib.hid h
      have HGE := Lib.hid (getE_mem hg)
      have HFU := Lib.hid hf
      have hlen : e0.f.bytes.length ≤ st.size := by
        have := hz.len nm
        unfold St.len at this
        rw [HF.out] at this
        exact this
      obtain ⟨l, hl⟩ : ∃ l, l = e0.f.bytes.length := ⟨_, rfl⟩
      rw [← hl] at hlen
      have HL := Lib.hid hl
      have hk1 : ∀ w1 : World, Chg (fun _ => False) w w1 → ∃ p c, w1.cell? ⟨e0.blk, 1, none⟩ = some (.slice p l c) := fun w1 hb => by
        have hE : EntAt w1 e0 := (HG.out.ents e0 HGE.out.1).chg hb (fun _ _ x => x)
        obtain ⟨p, c, hv⟩ := hE.bytes.slice
        exact ⟨p, c, by rw [hE.cells.2.1, hv, HL.out]⟩
      have HK1 := Lib.hid hk1
      clear h hq hg hfd hq' hfile hf hl hk1 hz
      by_cases ha0 : n < 0
      · go_enter Tryz.func42, Tryz.ntmps42
        go_wp2_with (go_at_call 52; refine HC.out.mono ?_; rintro e w1 ⟨rfl, hb⟩)
        go_ret
        exact OpTo.err HG.out hb (by unfold cutE; rw [if_neg HQ.out, HF.out]; simp only; rw [if_pos (.inl ha0)]) (by unfold cutS; rw [if_neg HQ.out, HF.out]; simp only; rw [if_pos (.inl ha0)])
      · by_cases ha1 : (l : Int) < n
        · go_enter Tryz.func42, Tryz.ntmps42
          go_wp2_with (go_at_call 52; refine HC.out.mono ?_; rintro e w1 ⟨rfl, hb⟩; obtain ⟨p, c, k1⟩ := HK1.out w1 (Chg.of_below hb))
          go_ret
          exact OpTo.err HG.out hb (by unfold cutE; rw [if_neg HQ.out, HF.out]; simp only; rw [if_pos (.inr (by rw [← HL.out]; exact ha1))]) (by unfold cutS; rw [if_neg HQ.out, HF.out]; simp only; rw [if_pos (.inr (by rw [← HL.out]; exact ha1))])
        · obtain ⟨i, hi⟩ : ∃ i : Nat, n = i := ⟨n.toNat, by omega⟩
          subst hi
          have hin : i ≤ l := by omega
          have hE1 : cutE st nm i = burnE st := by
            unfold cutE
            rw [if_neg HQ.out, HF.out]
            simp only
            rw [if_neg (by rw [← HL.out]; omega)]
          have hS1 : cutS st nm i = if burnE st = 0 then { burnS st with size := st.size - (l - i), fs := setF st.fs nm (cutF e0.f i) } else burnS st := by
            unfold cutS
            rw [if_neg HQ.out, HF.out]
            simp only
            rw [if_neg (by rw [← HL.out]; omega), ← HL.out, Int.toNat_natCast]
          rw [hE1, hS1]
          clear hE1 hS1 ha0 ha1
          obtain ⟨k, hk⟩ : ∃ k, k = burnE st := ⟨_, rfl⟩
          have hk8 := burn_k st
          rw [← hk] at hk8 ⊢
          have HK := Lib.hid hk
          clear hk
          rcases hk8 with rfl | rfl
          · rw [if_pos rfl]
            go_enter Tryz.func42, Tryz.ntmps42
            go_wp2_with (first
                  | (go_at_call 52; refine HC.out.mono ?_; rintro e w1 ⟨rfl, hb⟩; obtain ⟨p, c, k1⟩ := HK1.out w1 (Chg.of_below hb))
                  | (go_at_call 51; refine (burn_to HK.out (burn_any g st _ (HG.out.new (Chg.of_below hb)) HFU.out.1 HFU.out.2)).mono ?_; rintro e w3 ⟨rfl, hd3, ht3⟩))
            have HD3 := Lib.hid hd3
            have HT3 := Lib.hid ht3
            have hE3 := hd3.ents e0 HGE.out.1
            have q1 := hE3.cells.2.1
            obtain ⟨p2, c2, hv2⟩ := hE3.bytes.slice
            rw [hv2, ← HL.out] at q1
            obtain ⟨_, _, _, _, d4, _, _, dz⟩ := hd3.cells
            rw [burnS_size] at d4
            have z4 := dz 4
            have hw1 : IntKind.i64.wrap ((l : Int) - (i : Int)) = (l : Int) - i := IntWalk.i64_in _ (by omega)
            have hw2 : IntKind.i64.wrap ((st.size : Int) - ((l : Int) - (i : Int))) = (st.size : Int) - ((l : Int) - i) := IntWalk.i64_in _ (by omega)
            clear hd3 ht3 hE3 hv2 dz k1
            go_wp2_with fail
            go_still_tail 14, (by kernel_rfl)
            change wpList _ _ _ _ _ w3.drew
            have hd := HD3.out.drew
            have hT := Gh.To.new g (Chg.refl (fun _ => False) w3).drew
            clear q1 d4 z4
            generalize w3.drew = w4 at hd hT ⊢
            have d4 := hd.cells.2.2.2.2.1
            have z4 := hd.cells.2.2.2.2.2.2.2 4
            have hs2 := hd.set 4 (.int .i64 ((st.size : Int) - ((l : Int) - i))) { burnS st with size := st.size - (l - i) } rfl (by
              rw [show ((st.size : Int) - ((l : Int) - i)) = ((st.size - (l - i) : Nat) : Int) by omega]; rfl)
            have HS := Lib.hid hs2
            have HT := Lib.hid hT
            clear hd hT hs2 hw1 hw2
            go_wp2_with (go_at_call 66; refine (sync_disk HS.out.1 HGE.out.1 HIN.out).mono ?_)
            rintro e w5 rfl e1 hf1 ht1
            have hu := HS.out.1.upd HGE.out.1 ht1
            have hcut := cutf_any e1 i w5 ht1.at_ (by
              rw [hf1]
              show i ≤ (putAll _ _).length
              rw [← HBY.out, ← HL.out]
              exact hin) (by
              rw [hf1]
              show i ≤ e0.f.bytes.length
              rw [← HL.out]
              exact hin)
            rw [ht1.blk] at hcut
            have HCUT := Lib.hid hcut
            have HU := Lib.hid hu
            have HF1 := Lib.hid hf1
            have HT1 := Lib.hid ht1
            clear hcut hu hf1 ht1
            go_wp2_with (go_at_call 67; refine HCUT.out.mono ?_)
            rintro e w6 ⟨rfl, e2, hf2, ht2⟩
            have hu2 := HS.out.1.upd HGE.out.1 (HT1.out.trans ht2)
            have HU2 := Lib.hid hu2
            have HF2 := Lib.hid hf2
            clear hu2 hf2 ht2
            go_wp2_with fail
            go_ret
            refine ⟨rfl, _, ?_, (((Gh.To.new g (Chg.of_below hb)).trans HT3.out).trans HT.out).trans (HS.out.2.trans HU2.out.2)⟩
            have := HU2.out.1
            rw [HF2.out, HF1.out, HGE.out.2, burnS_fs] at this
            exact this
          · rw [if_neg (by decide)]
            go_enter Tryz.func42, Tryz.ntmps42
            go_wp2_with (first
                  | (go_at_call 52; refine HC.out.mono ?_; rintro e w1 ⟨rfl, hb⟩; obtain ⟨p, c, k1⟩ := HK1.out w1 (Chg.of_below hb))
                  | (go_at_call 51; refine (burn_to HK.out (burn_any g st _ (HG.out.new (Chg.of_below hb)) HFU.out.1 HFU.out.2)).mono ?_; rintro e w3 ⟨rfl, hd3, ht3⟩))
            go_ret
            exact ⟨rfl, g, hd3, (Gh.To.new g (Chg.of_below hb)).trans ht3⟩
end Go.Proofs.YtgephceihkkokaaGreatDoor
