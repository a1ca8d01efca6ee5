/-
  The contract of Write.
-/
import Derived.Test.YtgephceihkkokaaGreatDoorDCreate
namespace Go.Proofs.YtgephceihkkokaaGreatDoor
open Go.RowKit Go.Deep

def addF (f : FileM) (x : WriteM) : FileM := ⟨f.image, putB f.bytes x.at_ x.s.data.toList, f.writes ++ [x]⟩
/-- How many bytes a write adds. -/
def more (f : FileM) (a n : Nat) : Nat := a + n - f.bytes.length
def writeE (st : St) (nm : ByteArray) (a : Int) (s : ByteArray) : Int := if st.down = true then 8 else match st.find nm with
  | none => 9
  | some f => if a < 0 ∨ (f.bytes.length : Int) < a then 2 else if st.cap - st.size < more f a.toNat s.size then 7 else burnE st
def writeS (st : St) (nm : ByteArray) (a : Int) (s : ByteArray) : St := if st.down = true then st else match st.find nm with
  | none => st
  | some f => if a < 0 ∨ (f.bytes.length : Int) < a then st else if st.cap - st.size < more f a.toNat s.size then st else if burnE st = 0 then
      (if s.size = 0 then burnS st else { burnS st with size := st.size + more f a.toNat s.size, turn := st.turn + 1, fs := setF st.fs nm (addF f ⟨(st.turn : Int) + 1, a.toNat, s⟩) }) else burnS st

theorem OpTo.below {g : Gh} {k : Int} {st : St} {w w' : World} (h : DiskAt w g st) (hb : Below w.heap.size w w') : OpTo g k st w (.returned (.int .i64 k)) w' :=
  ⟨rfl, g, h.new (Chg.of_below hb), Gh.To.new g (Chg.of_below hb)⟩
theorem OpTo.err {g : Gh} {k k' : Int} {st st' : St} {w w' : World} (h : DiskAt w g st) (hb : Below w.heap.size w w') (h1 : k = k') (h2 : st = st') : OpTo g k' st' w (.returned (.int .i64 k)) w' := (OpTo.below h hb).congr h1 h2

theorem burn_k (st : St) : burnE st = 0 ∨ burnE st = 8 := by unfold burnE; split <;> simp
theorem burn_to {g : Gh} {st : St} {w : World} {k : Int} (hk : k = burnE st) (hc : Calls Tryz.prog 51 #[.pointer (some ⟨g.d, 0, none⟩)] w (BurnTo g st w)) :
    Calls Tryz.prog 51 #[.pointer (some ⟨g.d, 0, none⟩)] w fun e w' => e = .returned (.int .i64 k) ∧ DiskAt w' g (burnS st) ∧ Gh.To w g g w' := by subst hk; exact hc
theorem burnS_size (st : St) : (burnS st).size = st.size := by unfold burnS; split <;> (try split) <;> rfl
theorem burnS_turn (st : St) : (burnS st).turn = st.turn := by unfold burnS; split <;> (try split) <;> rfl
theorem burnS_cap (st : St) : (burnS st).cap = st.cap := by unfold burnS; split <;> (try split) <;> rfl

theorem burnS_eta (st : St) (sz tn : Nat) (fs : List (ByteArray × FileM)) : ({ burnS st with size := sz, turn := tn, fs := fs } : St) = ⟨(burnS st).lit, (burnS st).down, (burnS st).left, (burnS st).cap, sz, tn, fs⟩ := rfl
theorem write_pre {g : Gh} {st : St} {w : World} (h : DiskAt w g (burnS st)) (q : Int) (m : Nat) (hq : q = ((st.size + m : Nat) : Int)) :
    DiskAt ((w.setCell ⟨g.d, 4, none⟩ (.int .i64 q)).setCell ⟨g.d, 5, none⟩ (.int .i64 ((st.turn : Int) + 1))) g { burnS st with size := st.size + m, turn := st.turn + 1 } ∧
      Gh.To w g g ((w.setCell ⟨g.d, 4, none⟩ (.int .i64 q)).setCell ⟨g.d, 5, none⟩ (.int .i64 ((st.turn : Int) + 1))) := by
  have h1 := h.set 4 (.int .i64 q) { burnS st with size := st.size + m } rfl (by rw [hq]; rfl)
  have h2 := h1.1.set 5 (.int .i64 ((st.turn : Int) + 1)) { burnS st with size := st.size + m, turn := st.turn + 1 } rfl (by
    rw [show ((st.turn : Int) + 1) = ((st.turn + 1 : Nat) : Int) by omega]; rfl)
  exact ⟨h2.1, h1.2.trans h2.2⟩

theorem add_disk {g : Gh} {st : St} {w : World} (h : DiskAt w g st) {nm : ByteArray} {e0 : Ent} (hg : getE g.es nm = some e0) (x : WriteM) (hx : e0.f.bytes.length ≤ 1099511627776) (hw : e0.f.writes.length ≤ 1099511627776) (ha : x.at_ + x.s.size ≤ 1099511627776) :
    Calls Tryz.prog 54 #[.pointer (some ⟨e0.blk, 0, none⟩), .agg #[.int .i64 x.turn, .int .i64 x.at_, .string x.s]] w fun e w' => e = .returned (.tuple #[]) ∧ ∃ g', DiskAt w' g' { st with fs := setF st.fs nm (addF e0.f x) } ∧ Gh.To w g g' w' := by
  obtain ⟨hm, hn⟩ := getE_mem hg
  refine (add_any e0 x w (h.ents e0 hm) hx hw ha).mono fun e w' ⟨he, e', hf, ht⟩ => ⟨he, { g with es := setE g.es e' }, ?_⟩
  have hu := h.upd hm ht
  rw [hf, hn] at hu
  exact hu

set_option maxHeartbeats 4000000 in
set_option maxRecDepth 100000 in
theorem write_any (g : Gh) (st : St) (nm : ByteArray) (a : Int) (s : ByteArray) (w : World) (h : DiskAt w g st) (hm : nm.size ≤ maxLen) (hf : FuseOk st) (hs : s.size ≤ 1073741824) (hc : st.cap ≤ 16777216) (hr : st.size ≤ st.cap) (ht : st.turn ≤ 1099511627776)
    (hfile : ∀ f, st.find nm = some f → f.bytes.length ≤ 1073741824 ∧ f.writes.length ≤ 1073741824) :
    Calls Tryz.prog 26 #[.pointer (some ⟨g.d, 0, none⟩), .string nm, .int .i64 a, .string s] w (OpTo g (writeE st nm a s) (writeS st nm a s) w) := by
  cases hq : st.down with
  | true =>
    have hk : readyE st [nm] = 8 := by unfold readyE; rw [if_pos hq]
    have HC := Lib.hid (find_err g st nm w h hm 8 hk rfl)
    have HQ := Lib.hid hq
    have HG := Lib.hid h
    clear h hq hk hfile hf
    go_enter Tryz.func26, Tryz.ntmps26
    go_wp2_with (go_at_call 52; refine HC.out.mono ?_; rintro e w' ⟨rfl, hb⟩)
    go_ret
    exact OpTo.err HG.out hb (by unfold writeE; rw [if_pos HQ.out]) (by unfold writeS; rw [if_pos HQ.out])
  | false =>
    have hq' : ¬ st.down = true := by rw [hq]; simp
    cases hg : getE g.es nm with
    | none =>
      have hfd := h.find nm
      rw [hg] at hfd
      have HF : Hid (st.find nm = none) := hfd.symm
      have hk : readyE st [nm] = 9 := by rw [readyE_one, if_neg hq', if_neg (by rw [HF.out]; simp)]
      have HC := Lib.hid (find_err g st nm w h hm 9 hk rfl)
      have HQ := Lib.hid hq'
      have HG := Lib.hid h
      clear h hq hk hg hfd hq' hfile hf
      go_enter Tryz.func26, Tryz.ntmps26
      go_wp2_with (go_at_call 52; refine HC.out.mono ?_; rintro e w' ⟨rfl, hb⟩)
      go_ret
      exact OpTo.err HG.out hb (by unfold writeE; rw [if_neg HQ.out, HF.out]) (by unfold writeS; rw [if_neg HQ.out, HF.out])
    | some e0 =>
      have hfd := h.find nm
      rw [hg] at hfd
      have HF : Hid (st.find nm = some e0.f) := hfd.symm
      obtain ⟨hn1, hn2⟩ := hfile e0.f HF.out
      have HC := Lib.hid (find_ok g st nm w h hm hq e0 hg)
      unfold pk at HC
      have HQ := Lib.hid hq'
      have HG := Lib.hid h
      have HGE := Lib.hid hg
      have HFU := Lib.hid hf
      obtain ⟨n, hn⟩ : ∃ n, n = e0.f.bytes.length := ⟨_, rfl⟩
      rw [← hn] at hn1
      have HN := Lib.hid hn
      clear h hq hg hfd hq' hfile hf hn
      by_cases ha0 : a < 0
      · go_enter Tryz.func26, Tryz.ntmps26
        go_wp2_with (go_at_call 52; refine HC.out.mono ?_; rintro e w1 ⟨rfl, hb⟩)
        go_ret
        exact OpTo.err HG.out hb (by unfold writeE; rw [if_neg HQ.out, HF.out]; simp only; rw [if_pos (.inl ha0)]) (by unfold writeS; rw [if_neg HQ.out, HF.out]; simp only; rw [if_pos (.inl ha0)])
      · have hk1 : ∀ w1 : World, Below w.heap.size w w1 → ∃ p c, w1.cell? ⟨e0.blk, 1, none⟩ = some (.slice p n c) := fun w1 hb => by
          have hE : EntAt w1 e0 := (HG.out.ents e0 (getE_mem HGE.out).1).chg (Chg.of_below (S := fun _ => False) hb) (fun _ _ x => x)
          obtain ⟨p, c, hv⟩ := hE.bytes.slice
          exact ⟨p, c, by rw [hE.cells.2.1, hv, HN.out]⟩
        have HK1 := Lib.hid hk1
        clear hk1
        by_cases ha1 : (n : Int) < a
        · go_enter Tryz.func26, Tryz.ntmps26
          go_wp2_with (go_at_call 52; refine HC.out.mono ?_; rintro e w1 ⟨rfl, hb⟩; obtain ⟨p, c, k1⟩ := HK1.out w1 hb)
          go_ret
          exact OpTo.err HG.out hb (by unfold writeE; rw [if_neg HQ.out, HF.out]; simp only; rw [if_pos (.inr (by rw [← HN.out]; exact ha1))]) (by unfold writeS; rw [if_neg HQ.out, HF.out]; simp only; rw [if_pos (.inr (by rw [← HN.out]; exact ha1))])
        · obtain ⟨i, hi⟩ : ∃ i : Nat, a = i := ⟨a.toNat, by omega⟩
          subst hi
          have hin : i ≤ n := by omega
          have hE1 : writeE st nm i s = if st.cap - st.size < i + s.size - n then 7 else burnE st := by
            unfold writeE
            rw [if_neg HQ.out, HF.out]
            simp only
            rw [if_neg (by rw [← HN.out]; omega), more, ← HN.out, Int.toNat_natCast]
          have hS1 : writeS st nm i s = if st.cap - st.size < i + s.size - n then st else if burnE st = 0 then (if s.size = 0 then burnS st else { burnS st with size := st.size + (i + s.size - n), turn := st.turn + 1, fs := setF st.fs nm (addF e0.f ⟨(st.turn : Int) + 1, i, s⟩) }) else burnS st := by
            unfold writeS
            rw [if_neg HQ.out, HF.out]
            simp only
            rw [if_neg (by rw [← HN.out]; omega), more, ← HN.out, Int.toNat_natCast]
          rw [hE1, hS1]
          clear hE1 hS1 ha0 ha1
          have hrI : (0 : Int) ≤ (st.cap : Int) - (st.size : Int) := by omega
          by_cases hfull : st.cap - st.size < i + s.size - n
          · rw [if_pos hfull, if_pos hfull]
            have hgt : (0 : Int) < (i : Int) + s.size - n := by omega
            have hfI : (st.cap : Int) - (st.size : Int) < (i : Int) + s.size - n := by omega
            go_enter Tryz.func26, Tryz.ntmps26
            go_wp2_with (first
              | (go_at_call 52; refine HC.out.mono ?_; rintro e w1 ⟨rfl, hb⟩; obtain ⟨p, c, k1⟩ := HK1.out w1 hb)
              | (go_at_call 53; refine (room_any g st _ (HG.out.new (Chg.of_below hb)) hr hc).mono ?_; rintro e w2 ⟨rfl, kd, rfl⟩))
            go_ret
            exact OpTo.below HG.out (below_drewN hb _)
          · rw [if_neg hfull, if_neg hfull]
            obtain ⟨k, hk⟩ : ∃ k, k = burnE st := ⟨_, rfl⟩
            have hk8 := burn_k st
            rw [← hk] at hk8 ⊢
            have HK := Lib.hid hk
            clear hk
            rcases hk8 with rfl | rfl
            · rw [if_pos rfl]
              by_cases hs0 : s.size = 0
              · rw [if_pos hs0]
                have hsz : s.size = 0 := hs0
                have hs00 : s.data.toList = [] := List.length_eq_zero_iff.1 (by rw [Array.length_toList]; exact hs0)
                have hse : s.toList.isEmpty = true := by rw [ByteArray.toList_eq, hs00]; rfl
                have hsn : s.toList = [] := by rw [ByteArray.toList_eq, hs00]
                clear hs00
                clear hs0
                go_enter Tryz.func26, Tryz.ntmps26
                go_wp2_with (first
                  | (go_at_call 52; refine HC.out.mono ?_; rintro e w1 ⟨rfl, hb⟩; obtain ⟨p, c, k1⟩ := HK1.out w1 hb)
                  | (go_at_call 53; refine (room_any g st _ (HG.out.new (Chg.of_below hb)) hr hc).mono ?_; rintro e w2 ⟨rfl, kd, rfl⟩)
                  | (go_at_call 51; refine (burn_to HK.out (burn_any g st _ (HG.out.new ((Chg.of_below hb).drewN kd)) HFU.out.1 HFU.out.2)).mono ?_; rintro e w3 ⟨rfl, hd3, ht3⟩))
                all_goals (try (exfalso; omega))
                all_goals
                  go_ret
                  exact ⟨rfl, g, hd3, (Gh.To.new g ((Chg.of_below hb).drewN kd)).trans ht3⟩
              · rw [if_neg hs0]
                have hse : s.toList.isEmpty = false := by
                  have hx : s.data.toList ≠ [] := fun e => hs0 (by have := congrArg List.length e; rw [Array.length_toList] at this; exact this)
                  rw [ByteArray.toList_eq]; simpa using hx
                have hsn : ¬ s.toList = [] := by simpa using hse
                have hsp : 0 < s.size := by omega
                clear hs0
                go_enter Tryz.func26, Tryz.ntmps26
                go_wp2_with (first
                  | (go_at_call 52; refine HC.out.mono ?_; rintro e w1 ⟨rfl, hb⟩; obtain ⟨p, c, k1⟩ := HK1.out w1 hb)
                  | (go_at_call 53; refine (room_any g st _ (HG.out.new (Chg.of_below hb)) hr hc).mono ?_; rintro e w2 ⟨rfl, kd, rfl⟩)
                  | (go_at_call 51; refine (burn_to HK.out (burn_any g st _ (HG.out.new ((Chg.of_below hb).drewN kd)) HFU.out.1 HFU.out.2)).mono ?_))
                all_goals (try (exfalso; omega))
                all_goals
                  rintro e w3 rfl hd3 ht3
                  obtain ⟨_, _, _, _, d4, d5, _, dz⟩ := hd3.cells
                  rw [burnS_size] at d4
                  rw [burnS_turn] at d5
                  have z4 := dz 4
                  have z5 := dz 5
                  have HD3 := Lib.hid hd3
                  have HT3 := Lib.hid ht3
                  clear hd3 ht3 dz
                  go_wp2_with fail
                · have hm0 : i + s.size - n = 0 := by omega
                  have hp := write_pre HD3.out (st.size : Int) (i + s.size - n) (by omega)
                  have HP := Lib.hid hp
                  clear hp hm0
                  refine (add_disk HP.out.1 HGE.out ⟨(st.turn : Int) + 1, i, s⟩ (by rw [← HN.out]; omega) (by omega) (by simp only; omega)).mono ?_
                  rintro e w6 ⟨rfl, g', hd6, ht6⟩
                  have HD6 := Lib.hid hd6
                  have HT6 := Lib.hid ht6
                  clear hd6 ht6
                  go_wp2_with fail
                  go_ret
                  refine ⟨rfl, g', ?_, (((Gh.To.new g ((Chg.of_below hb).drewN kd)).trans HT3.out).trans HP.out.2).trans HT6.out⟩
                  have := HD6.out
                  rw [burnS_fs] at this
                  exact this
                · have hp := write_pre HD3.out ((st.size : Int) + ((i : Int) + s.size - n)) (i + s.size - n) (by omega)
                  have HP := Lib.hid hp
                  clear hp
                  refine (add_disk HP.out.1 HGE.out ⟨(st.turn : Int) + 1, i, s⟩ (by rw [← HN.out]; omega) (by omega) (by simp only; omega)).mono ?_
                  rintro e w6 ⟨rfl, g', hd6, ht6⟩
                  have HD6 := Lib.hid hd6
                  have HT6 := Lib.hid ht6
                  clear hd6 ht6
                  go_wp2_with fail
                  go_ret
                  refine ⟨rfl, g', ?_, (((Gh.To.new g ((Chg.of_below hb).drewN kd)).trans HT3.out).trans HP.out.2).trans HT6.out⟩
                  have := HD6.out
                  rw [burnS_fs] at this
                  exact this
            · rw [if_neg (by decide)]
              go_enter Tryz.func26, Tryz.ntmps26
              go_wp2_with (first
                  | (go_at_call 52; refine HC.out.mono ?_; rintro e w1 ⟨rfl, hb⟩; obtain ⟨p, c, k1⟩ := HK1.out w1 hb)
                  | (go_at_call 53; refine (room_any g st _ (HG.out.new (Chg.of_below hb)) hr hc).mono ?_; rintro e w2 ⟨rfl, kd, rfl⟩)
                  | (go_at_call 51; refine (burn_to HK.out (burn_any g st _ (HG.out.new ((Chg.of_below hb).drewN kd)) HFU.out.1 HFU.out.2)).mono ?_; rintro e w3 ⟨rfl, hd3, ht3⟩))
              all_goals (try (exfalso; omega))
              all_goals
                go_ret
                exact ⟨rfl, g, hd3, (Gh.To.new g ((Chg.of_below hb).drewN kd)).trans ht3⟩
end Go.Proofs.YtgephceihkkokaaGreatDoor
