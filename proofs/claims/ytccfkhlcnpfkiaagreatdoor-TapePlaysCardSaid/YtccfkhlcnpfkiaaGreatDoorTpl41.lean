/- A part. -/
import Derived.Test.YtccfkhlcnpfkiaaGreatDoorTpl40
set_option linter.unusedVariables false
set_option linter.unusedSimpArgs false
namespace Go.Proofs.YtccfkhlcnpfkiaaGreatDoor
open Go.RowKit Go.Deep
theorem below_chg' {w w' : World} (h : Below w.heap.size w w') : Chg (fun _ => False) w w' := Chg.of_below h
structure TkI (w0 w wr : World) (tb : Nat) (t : TapeM) (g : Gh) (st : St) (m : RowM) (place : Nat) (s : ByteArray) (a f : Nat) (L : List (Nat × MsgM × Nat)) (v : Value) : Prop where
  tg : TapeG w0 wr tb (t.noteL v (notesT place L)) g st m
  chg : Chg (fun q => q ∈ t.foot tb) w wr
  foot : ∀ q ∈ (t.noteL v (notesT place L)).foot tb, q ∈ t.foot tb ∨ w.heap.size ≤ q
  len : L.length ≤ a
  le_ : a ≤ s.size
  fuel : s.size < a + f
  eq : takeF (s.size + 1) s 0 = (L ++ (takeF f s a).1, (takeF f s a).2)
theorem TkI.new {w0 w wr wx : World} {tb : Nat} {t : TapeM} {g : Gh} {st : St} {m : RowM} {place : Nat} {s : ByteArray} {a f : Nat} {L : List (Nat × MsgM × Nat)} {v : Value} (h : TkI w0 w wr tb t g st m place s a f L v) (hc : Chg (fun _ => False) wr wx) : TkI w0 w wx tb t g st m place s a f L v :=
  { h with tg := h.tg.new hc, chg := h.chg.trans hc (fun i _ x => x.elim) }
def TTakeTo (w0 w : World) (tb : Nat) (t : TapeM) (g : Gh) (st : St) (m : RowM) (place : Nat) (s : ByteArray) (e : Ending) (w' : World) : Prop :=
  e = .returned (.int .i64 ((takeF (s.size + 1) s 0).2 : Nat)) ∧ ∃ v', TapeG w0 w' tb (t.noteL v' (notesT place (takeF (s.size + 1) s 0).1)) g st m ∧ Chg (fun q => q ∈ t.foot tb) w w' ∧ ∀ q ∈ (t.noteL v' (notesT place (takeF (s.size + 1) s 0).1)).foot tb, q ∈ t.foot tb ∨ w.heap.size ≤ q
theorem TkI.done {w0 w wr : World} {tb : Nat} {t : TapeM} {g : Gh} {st : St} {m : RowM} {place : Nat} {s : ByteArray} {a f : Nat} {L : List (Nat × MsgM × Nat)} {v : Value} (h : TkI w0 w wr tb t g st m place s a f L v) (hd : takeF f s a = ([], a)) : TTakeTo w0 w tb t g st m place s (.returned (.int .i64 (a : Int))) wr := by
  have he := h.eq
  rw [hd, List.append_nil] at he
  unfold TTakeTo
  rw [he]
  exact ⟨rfl, v, h.tg, h.chg, h.foot⟩
theorem take_step {f a n : Nat} {s : ByteArray} {M : MsgM} (hlt : a < s.size) (hs : stepT s a = some (M, n)) : takeF (f + 1) s a = ((a, M, n) :: (takeF f s (a + n)).1, (takeF f s (a + n)).2) := by
  show (if a < s.size then _ else _) = _
  rw [if_pos hlt, hs]
theorem take_stop {f a : Nat} {s : ByteArray} (h : s.size ≤ a ∨ stepT s a = none) : takeF f s a = ([], a) := by
  cases f with
  | zero => rfl
  | succ f =>
    show (if a < s.size then _ else _) = _
    by_cases hlt : a < s.size
    · rw [if_pos hlt]
      rcases h with h | h
      · omega
      · rw [h]
    · rw [if_neg hlt]
theorem TkI.skip {w0 w wr : World} {tb : Nat} {t : TapeM} {g : Gh} {st : St} {m : RowM} {place : Nat} {s : ByteArray} {a f n : Nat} {L : List (Nat × MsgM × Nat)} {v : Value} {M : MsgM} (h : TkI w0 w wr tb t g st m place s a (f + 1) L v) (hlt : a < s.size) (hs : stepT s a = some (M, n)) (hk : M.kind = 0) : TkI w0 w wr tb t g st m place s (a + n) f (L ++ [(a, M, n)]) v := by
  obtain ⟨_, h3, h4, _⟩ := step_some hs h.le_
  have hn : notesT place (L ++ [(a, M, n)]) = notesT place L := by
    rw [notesT_app]
    have : notesT place [(a, M, n)] = [] := by simp [notesT, hk]
    rw [this, List.append_nil]
  have hl := h.len
  have hfu := h.fuel
  refine ⟨by rw [hn]; exact h.tg, h.chg, by rw [hn]; exact h.foot, by rw [List.length_append, List.length_singleton]; omega, h4, by omega, ?_⟩
  have he := h.eq
  rw [take_step hlt hs] at he
  rw [he]
  simp
theorem TkI.note {w0 w wr w' : World} {tb : Nat} {t : TapeM} {g : Gh} {st : St} {m : RowM} {place : Nat} {s : ByteArray} {a f n : Nat} {L : List (Nat × MsgM × Nat)} {v : Value} {M : MsgM} {e : Ending} (h : TkI w0 w wr tb t g st m place s a (f + 1) L v) (hlt : a < s.size) (hs : stepT s a = some (M, n)) (hk : ¬ M.kind = 0)
    (hn : NoteTo w0 wr tb g.d (t.noteL v (notesT place L)) ((place + a : Nat) : Int) (n : Int) M.born e w') : e = .returned (.tuple #[]) ∧ ∃ v', TkI w0 w w' tb t g st m place s (a + n) f (L ++ [(a, M, n)]) v' := by
  obtain ⟨_, h3, h4, _⟩ := step_some hs h.le_
  obtain ⟨rfl, v', hta, hc, hf⟩ := hn
  obtain ⟨_, v2, htg, _⟩ := h.tg.noted (e := .returned (.tuple #[])) ⟨rfl, v', hta, hc, hf⟩
  have htg' : TapeG w0 w' tb ((t.noteL v (notesT place L)).noted v' ((place + a : Nat) : Int) (n : Int) M.born) g st m := ⟨h.tg.row.apart hc (fun q hq => ⟨(h.tg.out q hq).1, (h.tg.out q hq).2, h.tg.tape.low q hq⟩), hta, fun q hq => by
    rcases hf q hq with x | x
    · exact h.tg.out q x
    · refine ⟨fun e => ?_, fun hx => ?_⟩
      · have := h.tg.row.row.lt
        have e' : q = t.rb := e
        have e2 : (t.noteL v (notesT place L)).rb = t.rb := rfl
        rw [e2] at this
        omega
      · have := h.tg.row.disk.lt q hx
        omega⟩
  have hnn : notesT place (L ++ [(a, M, n)]) = notesT place L ++ [(((place + a : Nat) : Int), (n : Int), M.born)] := by
    rw [notesT_app]
    congr 1
    simp [notesT, hk]
  have hl := h.len
  have hfu := h.fuel
  refine ⟨rfl, v', ⟨?_, ?_, ?_, by rw [List.length_append, List.length_singleton]; omega, h4, by omega, ?_⟩⟩
  · rw [hnn, ← noteL_snoc t v]; exact htg'
  · refine h.chg.trans hc (fun i hi hx => ?_)
    rcases h.foot i hx with x | x
    · exact x
    · omega
  · intro q hq
    rw [hnn, ← noteL_snoc t v] at hq
    rcases hf q hq with x | x
    · exact h.foot q x
    · right
      have := h.chg.size
      omega
  · have he := h.eq
    rw [take_step hlt hs] at he
    rw [he]
    simp
set_option maxHeartbeats 4000000 in
set_option maxRecDepth 100000 in
theorem ttake_any {w0 w : World} {tb : Nat} {t : TapeM} {g : Gh} {st : St} {m : RowM} (h : TapeG w0 w tb t g st m) (place : Nat) (hpl : place ≤ 100000000) (s : ByteArray) (hsz : s.size ≤ 4096) (hml : t.M.length ≤ 900000) (hil : t.ids.length ≤ 900000) :
    Calls Tryz.prog 71 #[.pointer (some ⟨tb, 0, none⟩), .int .i64 place, .string s] w (TTakeTo w0 w tb t g st m place s) := by
  have HI0 : Hid (TkI w0 w w tb t g st m place s 0 (s.size + 1) [] t.v) := Lib.hid ⟨by rw [show notesT place [] = [] from rfl, noteL_nil]; exact h, Chg.refl _ _, fun q hq => .inl (by rw [show notesT place [] = [] from rfl, noteL_nil] at hq; exact hq), Nat.le_refl _, Nat.zero_le _, by omega, by simp⟩
  clear h
  go_enter Tryz.func71, Tryz.ntmps71
  go_wp2_with fail
  go_loopw [7] (fun av wr => ∃ (a f : Nat) (L : List (Nat × MsgM × Nat)) (v : Value), av = .int .i64 a ∧ TkI w0 w wr tb t g st m place s a f L v) (fun av _ => s.size - (intOf av).toNat)
  case atStart => exact ⟨0, _, [], t.v, rfl, HI0.out⟩
  case round =>
    obtain ⟨a, f, L, v, rfl, hI⟩ := hrel
    have HI := Lib.hid hI
    have hle := hI.le_
    by_cases hlt : a < s.size
    · obtain ⟨⟨⟨m1, m2, m3, m4, m5, m6, m7, m8, m9, m10⟩, n, x⟩, hg⟩ : ∃ r, r = getS (s.extract a s.size) := ⟨_, rfl⟩
      have hcb : wr.cell? ⟨tb, 2, none⟩ = some (.pointer (some ⟨t.cb, 0, none⟩)) := hI.tg.tape.cell.2.2.1
      have HGET : Hid (∀ W, Below wr.heap.size wr W → Calls Tryz.prog 52 #[.pointer (some ⟨t.cb, 0, none⟩), .string (s.extract a s.size)] W (GetTo ⟨m1, m2, m3, m4, m5, m6, m7, m8, m9, m10⟩ n x W)) := Lib.hid (fun W hw =>
        get_any t.cb (s.extract a s.size) ⟨m1, m2, m3, m4, m5, m6, m7, m8, m9, m10⟩ n x W ((hI.tg.new (below_chg' hw)).tape.tab) (by rw [ByteArray.size_extract]; omega) hg.symm)
      have HCB : Hid (∀ W, Below wr.heap.size wr W → W.cell? ⟨tb, 2, none⟩ = some (.pointer (some ⟨t.cb, 0, none⟩))) := Lib.hid (fun W hw => (hw.cell (p := ⟨tb, 2, none⟩) (World.block_lt_of_cell? (a := ⟨tb, 2, none⟩) (h := hcb))).trans hcb)
      have HG := Lib.hid hg
      clear hI hg
      have HB0 : Hid (Below wr.heap.size wr wr) := Lib.hid (Below.refl _ _)
      have HBA : Hid (Below wr.heap.size wr (wr.alloc (.cells #[.int .i64 0, .int .i64 0, .int .i64 0, .int .i64 0, .int .i64 0, .int .i64 0, .string ⟨#[]⟩, .string ⟨#[]⟩, .string ⟨#[]⟩, .slice none 0 0] 38))) := Lib.hid ((Below.refl _ _).alloc (Nat.le_refl _) _)
      have HZA : Hid (Box (wr.alloc (.cells #[.int .i64 0, .int .i64 0, .int .i64 0, .int .i64 0, .int .i64 0, .int .i64 0, .string ⟨#[]⟩, .string ⟨#[]⟩, .string ⟨#[]⟩, .slice none 0 0] 38)).drew wr.heap.size zc) := Lib.hid (box_zero wr)
      go_upto_region 3 with fail
      go_cut [8, 9, 10] (fun v8 v9 v10 wx => ∃ b ka kc, v8 = .pointer (some ⟨b, 0, none⟩) ∧ v9 = .int .i64 n ∧ v10 = .int .i64 x ∧ Below wr.heap.size wr wx ∧ Box wx b #[.int .i64 m1, .int .i64 m2, .int .i64 m3, .int .i64 m4, .int .i64 m5, .int .i64 m6, .string m7, .string m8, .string m9, .slice ka m10.length kc] ∧ Strs wx 0 (.slice ka m10.length kc) m10)
      case first =>
        go_region_held3 (fun w' => w'.cell? ⟨tb, 2, none⟩ = some (.pointer (some ⟨t.cb, 0, none⟩)))
          (first | (with_reducible exact hcb) | (with_reducible exact cc) | (with_reducible exact c10) | (with_reducible exact c11) | (with_reducible exact HCB.out _ HBA.out) | (with_reducible exact HCB.out _ HBB.out) | go_keep)
          (first
          | (go_at_call 52
             ((with_reducible refine (HGET.out _ (Below.drew HB0.out)).mono ?_))
             rintro e w2 ⟨vk, rfl, hsv, hcv, hb⟩
             obtain ⟨ka, kc, hvk⟩ := hsv.form
             subst hvk
             have HBB := Lib.hid ((Below.drew HB0.out).trans (hb.mono (Below.drew HB0.out).size))
             have cc := HCB.out w2 HBB.out
             have HRES : Hid (Below wr.heap.size wr (w2.alloc (.cells #[.int .i64 m1, .int .i64 m2, .int .i64 m3, .int .i64 m4, .int .i64 m5, .int .i64 m6, .string m7, .string m8, .string m9, .slice ka m10.length kc] 38)) ∧ Box (w2.alloc (.cells #[.int .i64 m1, .int .i64 m2, .int .i64 m3, .int .i64 m4, .int .i64 m5, .int .i64 m6, .string m7, .string m8, .string m9, .slice ka m10.length kc] 38)) w2.heap.size #[.int .i64 m1, .int .i64 m2, .int .i64 m3, .int .i64 m4, .int .i64 m5, .int .i64 m6, .string m7, .string m8, .string m9, .slice ka m10.length kc] ∧ Strs (w2.alloc (.cells #[.int .i64 m1, .int .i64 m2, .int .i64 m3, .int .i64 m4, .int .i64 m5, .int .i64 m6, .string m7, .string m8, .string m9, .slice ka m10.length kc] 38)) 0 (.slice ka m10.length kc) m10) := Lib.hid ⟨HBB.out.alloc HBB.out.size _, Box.new w2 _, (strs_low hsv (Nat.zero_le _)).below ((Below.refl _ _).alloc (Nat.le_refl _) _) (Nat.le_refl _)⟩
             have c11 := HCB.out _ (HBB.out.alloc HBB.out.size (.cells #[.int .i64 m1, .int .i64 m2, .int .i64 m3, .int .i64 m4, .int .i64 m5, .int .i64 m6, .string m7, .string m8, .string m9, .slice ka m10.length kc] 38))
             clear hsv hcv hb
             unfold MsgM.val MsgM.cells
             dsimp only)
          | (go_at_call 52
             ((with_reducible refine (HGET.out _ (Below.drew HBA.out)).mono ?_))
             rintro e w2 ⟨vk, rfl, hsv, hcv, hb⟩
             obtain ⟨ka, kc, hvk⟩ := hsv.form
             subst hvk
             have HBB := Lib.hid ((Below.drew HBA.out).trans (hb.mono (Below.drew HBA.out).size))
             have cc := HCB.out w2 HBB.out
             have HZ2 := Lib.hid (Box.below (b := wr.heap.size) (cs := zc) HZA.out hb HZA.out.lt)
             have c10 := HCB.out _ (below_set10 HBB.out (Nat.le_refl _) (.int .i64 m1) (.int .i64 m2) (.int .i64 m3) (.int .i64 m4) (.int .i64 m5) (.int .i64 m6) (.string m7) (.string m8) (.string m9) (.slice ka m10.length kc))
             unfold set10 at c10
             have hzf := HZ2.out.free
             have hzm := HZ2.out.cell
             simp only [zc] at hzm
             have hres : Below wr.heap.size wr (set10 w2 wr.heap.size (.int .i64 m1) (.int .i64 m2) (.int .i64 m3) (.int .i64 m4) (.int .i64 m5) (.int .i64 m6) (.string m7) (.string m8) (.string m9) (.slice ka m10.length kc)) ∧ Box (set10 w2 wr.heap.size (.int .i64 m1) (.int .i64 m2) (.int .i64 m3) (.int .i64 m4) (.int .i64 m5) (.int .i64 m6) (.string m7) (.string m8) (.string m9) (.slice ka m10.length kc)) wr.heap.size #[.int .i64 m1, .int .i64 m2, .int .i64 m3, .int .i64 m4, .int .i64 m5, .int .i64 m6, .string m7, .string m8, .string m9, .slice ka m10.length kc] ∧ Strs (set10 w2 wr.heap.size (.int .i64 m1) (.int .i64 m2) (.int .i64 m3) (.int .i64 m4) (.int .i64 m5) (.int .i64 m6) (.string m7) (.string m8) (.string m9) (.slice ka m10.length kc)) 0 (.slice ka m10.length kc) m10 := ⟨below_set10 HBB.out (Nat.le_refl _) (.int .i64 m1) (.int .i64 m2) (.int .i64 m3) (.int .i64 m4) (.int .i64 m5) (.int .i64 m6) (.string m7) (.string m8) (.string m9) (.slice ka m10.length kc), box_set10 HZ2.out (.int .i64 m1) (.int .i64 m2) (.int .i64 m3) (.int .i64 m4) (.int .i64 m5) (.int .i64 m6) (.string m7) (.string m8) (.string m9) (.slice ka m10.length kc), strs_low (strs_set10 hsv HZA.out.lt (.int .i64 m1) (.int .i64 m2) (.int .i64 m3) (.int .i64 m4) (.int .i64 m5) (.int .i64 m6) (.string m7) (.string m8) (.string m9) (.slice ka m10.length kc)) (Nat.zero_le _)⟩
             unfold set10 at hres
             have HRES := Lib.hid hres
             clear hsv hcv hb hres
             unfold MsgM.val MsgM.cells
             dsimp only))
        all_goals
          go_wp2_with fail
          go_meet
          case rel => exact ⟨_, _, _, rfl, rfl, rfl, HRES.out⟩
      case rest =>
        obtain ⟨b, ka, kc, rfl, rfl, rfl, hbx, hbox, hst⟩ := hcut
        have HIc := Lib.hid (HI.out.new (below_chg' hbx))
        have hfu := HI.out.fuel
        obtain ⟨f', hf'⟩ : ∃ f', f = f' + 1 := ⟨f - 1, by omega⟩
        subst hf'
        have hgr := HG.out
        have hbm := hbox.cell
        have HBX := Lib.hid hbox
        have HST := Lib.hid hst
        obtain ⟨kl, hkl⟩ : ∃ l, l = m10.length := ⟨_, rfl⟩
        rw [← hkl] at hbm HBX HST
        have HKL := Lib.hid hkl
        clear hbx hbox hst hcb HGET HCB HB0 HBA HZA HG hkl
        by_cases hx : x = 0
        · subst hx
          obtain ⟨l1, l2⟩ := get_len hgr.symm
          rw [ByteArray.size_extract] at l2
          obtain ⟨nn, hnn⟩ : ∃ nn : Nat, n = (nn : Int) := ⟨n.toNat, by omega⟩
          subst hnn
          obtain ⟨y, hy⟩ : ∃ y, mayB (1024 - (a : Int) - (nn : Int)) = y := ⟨_, rfl⟩
          have HML : Hid (Calls Tryz.prog 81 #[.int .i64 (1024 - (a : Int) - (nn : Int))] wc fun e w' => e = .returned (.bool y) ∧ wc = w') := Lib.hid (hy ▸ mayLeave_any _ _)
          have hn1 : nn ≤ 4096 := by omega
          have ha1 : a ≤ 4096 := by omega
          cases y
          · have hno : stepT s a = none := by
              unfold stepT
              rw [← hgr]
              rw [if_neg (fun hc => by rw [hy] at hc; exact absurd hc.2 (by decide))]
            have HD := Lib.hid (HIc.out.done (take_stop (.inr hno)))
            clear hno hy hgr l1 l2
            go_wp2_with fail
            refine HML.out.mono ?_
            rintro e w3 ⟨rfl, rfl⟩
            go_wp2_with fail
            go_ret
            exact HD.out
          · have hst : stepT s a = some (⟨m1, m2, m3, m4, m5, m6, m7, m8, m9, m10⟩, nn) := by
              unfold stepT
              rw [← hgr]
              rw [if_pos ⟨rfl, hy⟩]
              rfl
            have HSTP := Lib.hid hst
            clear hst hy hgr
            have hl4 : a + nn ≤ s.size := by omega
            by_cases hk : m1 = 0
            · subst hk
              have HSK := Lib.hid (HIc.out.skip hlt HSTP.out rfl)
              go_wp2_with fail
              refine HML.out.mono ?_
              rintro e w3 ⟨rfl, rfl⟩
              go_wp2_with fail
              exact ⟨⟨a + nn, f', _, _, by go_num, HSK.out⟩, by simp [intOf]; omega⟩
            · have hnl := noteL_len t v (notesT place L)
              have hnt := notesT_len place L
              have hll := HIc.out.len
              have hNT := tnote_any HIc.out.tg.tape (HIc.out.tg.chg.size) ((place + a : Nat) : Int) (nn : Int) ⟨m1, m2, m3, m4, m5, m6, m7, m8, m9, m10⟩ (.slice ka kl kc) (twf_nat _ (by omega)) (by omega) (by omega)
              unfold MsgM.val MsgM.cells at hNT
              dsimp only at hNT
              rw [show ((place + a : Nat) : Int) = (place : Int) + (a : Int) from by omega] at hNT
              have HNT := Lib.hid hNT
              clear hNT hnl hnt hll
              go_wp2_with fail
              refine HML.out.mono ?_
              rintro e w3 ⟨rfl, rfl⟩
              go_wp2_with fail
              refine HNT.out.mono ?_
              intro e w4 hto
              rw [show (place : Int) + (a : Int) = ((place + a : Nat) : Int) from by omega] at hto
              obtain ⟨rfl, v', hI4⟩ := HIc.out.note hlt HSTP.out hk hto
              have HI4 := Lib.hid hI4
              clear hI4 hto
              go_wp2_with fail
              exact ⟨⟨a + nn, f', _, v', by go_num, HI4.out⟩, by simp [intOf]; omega⟩
        · have hno : stepT s a = none := by
            unfold stepT
            rw [← hgr]
            rw [if_neg (fun hc => hx hc.1)]
          have HD := Lib.hid (HIc.out.done (take_stop (.inr hno)))
          clear hno hgr
          go_wp2_with fail
          go_ret
          exact HD.out
    · have HD := Lib.hid (HI.out.done (take_stop (.inl (by omega))))
      go_wp2_with fail
      go_ret
      exact HD.out
attribute [local go_sem] fr_opt
def segB (all : List UInt8) (p : Nat) : ByteArray := ⟨((all.drop p).take 1024).toArray⟩
theorem segB_size (all : List UInt8) (p : Nat) : (segB all p).size = min 1024 (all.length - p) := by
  unfold segB; rw [sizeL, List.length_take, List.length_drop]
def tgathF (i0 : Nat) (all : List UInt8) : Nat → Nat → List (Int × Int × Int) × Nat
  | 0, p => ([], p)
  | f + 1, p => if p < all.length then
      (if (takeF ((segB all p).size + 1) (segB all p) 0).2 < (segB all p).size then (notesT (1024 * i0 + p) (takeF ((segB all p).size + 1) (segB all p) 0).1, p + (takeF ((segB all p).size + 1) (segB all p) 0).2)
       else (notesT (1024 * i0 + p) (takeF ((segB all p).size + 1) (segB all p) 0).1 ++ (tgathF i0 all f (p + (segB all p).size)).1, (tgathF i0 all f (p + (segB all p).size)).2))
    else ([], p)
theorem take_le (f : Nat) (s : ByteArray) (a : Nat) (h : a ≤ s.size) : (takeF f s a).2 ≤ s.size ∧ (takeF f s a).1.length + a ≤ (takeF f s a).2 := by
  induction f generalizing a with
  | zero => exact ⟨h, by simp [takeF]⟩
  | succ f ih =>
    by_cases hlt : a < s.size
    · cases hs : stepT s a with
      | none => rw [take_stop (.inr hs)]; exact ⟨h, by simp⟩
      | some r =>
        obtain ⟨M, n⟩ := r
        obtain ⟨_, h3, h4, _⟩ := step_some hs h
        rw [take_step hlt hs]
        have := ih (a + n) h4
        dsimp only
        rw [List.length_cons]
        omega
    · rw [take_stop (.inl (by omega))]; exact ⟨h, by simp⟩
structure GaI (w0 w wr : World) (tb : Nat) (t : TapeM) (g : Gh) (st : St) (m : RowM) (i0 : Nat) (all : List UInt8) (p f : Nat) (N : List (Int × Int × Int)) (v : Value) : Prop where
  tg : TapeG w0 wr tb (t.noteL v N) g st m
  chg : Chg (fun q => q ∈ t.foot tb) w wr
  foot : ∀ q ∈ (t.noteL v N).foot tb, q ∈ t.foot tb ∨ w.heap.size ≤ q
  len : N.length ≤ p
  le_ : p ≤ all.length
  fuel : all.length < p + f
  mult : p < all.length → p % 1024 = 0
  eq : tgathF i0 all (all.length + 1) 0 = (N ++ (tgathF i0 all f p).1, (tgathF i0 all f p).2)
def GatTo (w0 w : World) (tb : Nat) (t : TapeM) (g : Gh) (st : St) (m : RowM) (i0 : Nat) (all : List UInt8) (e : Ending) (w' : World) : Prop :=
  e = .returned (.tuple #[.int .i64 ((1024 * i0 + (tgathF i0 all (all.length + 1) 0).2 : Nat) : Int), .int .i64 0]) ∧ ∃ v', TapeG w0 w' tb (t.noteL v' (tgathF i0 all (all.length + 1) 0).1) g st m ∧ Chg (fun q => q ∈ t.foot tb) w w' ∧ ∀ q ∈ (t.noteL v' (tgathF i0 all (all.length + 1) 0).1).foot tb, q ∈ t.foot tb ∨ w.heap.size ≤ q
theorem tgath_stop {i0 f p : Nat} {all : List UInt8} (h : all.length ≤ p) : tgathF i0 all f p = ([], p) := by
  cases f with
  | zero => rfl
  | succ f =>
    show (if p < all.length then _ else _) = _
    rw [if_neg (by omega)]
theorem tgath_some {i0 f p : Nat} {all : List UInt8} (h : p < all.length) : tgathF i0 all (f + 1) p = if (takeF ((segB all p).size + 1) (segB all p) 0).2 < (segB all p).size then (notesT (1024 * i0 + p) (takeF ((segB all p).size + 1) (segB all p) 0).1, p + (takeF ((segB all p).size + 1) (segB all p) 0).2)
       else (notesT (1024 * i0 + p) (takeF ((segB all p).size + 1) (segB all p) 0).1 ++ (tgathF i0 all f (p + (segB all p).size)).1, (tgathF i0 all f (p + (segB all p).size)).2) := by
  show (if p < all.length then _ else _) = _
  rw [if_pos h]
theorem GaI.new {w0 w wr wx : World} {tb : Nat} {t : TapeM} {g : Gh} {st : St} {m : RowM} {i0 : Nat} {all : List UInt8} {p f : Nat} {N : List (Int × Int × Int)} {v : Value} (h : GaI w0 w wr tb t g st m i0 all p f N v) (hc : Chg (fun _ => False) wr wx) : GaI w0 w wx tb t g st m i0 all p f N v :=
  { h with tg := h.tg.new hc, chg := h.chg.trans hc (fun i _ x => x.elim) }
theorem GaI.took {w0 w wr w' : World} {tb : Nat} {t : TapeM} {g : Gh} {st : St} {m : RowM} {i0 : Nat} {all : List UInt8} {p f : Nat} {N : List (Int × Int × Int)} {v : Value} {e : Ending} (h : GaI w0 w wr tb t g st m i0 all p f N v) (ht : TTakeTo w0 wr tb (t.noteL v N) g st m (1024 * i0 + p) (segB all p) e w') :
    ∃ v', TapeG w0 w' tb (t.noteL v' (N ++ notesT (1024 * i0 + p) (takeF ((segB all p).size + 1) (segB all p) 0).1)) g st m ∧ Chg (fun q => q ∈ t.foot tb) w w' ∧ ∀ q ∈ (t.noteL v' (N ++ notesT (1024 * i0 + p) (takeF ((segB all p).size + 1) (segB all p) 0).1)).foot tb, q ∈ t.foot tb ∨ w.heap.size ≤ q := by
  obtain ⟨_, v', h1, h2, h3⟩ := ht
  refine ⟨v', by rw [← noteL_app t v v']; exact h1, h.chg.trans h2 (fun i hi hx => ?_), fun q hq => ?_⟩
  · rcases h.foot i hx with x | x
    · exact x
    · omega
  · rw [← noteL_app t v v'] at hq
    rcases h3 q hq with x | x
    · exact h.foot q x
    · right
      have := h.chg.size
      omega
theorem tgath_len {i0 f p : Nat} {all : List UInt8} (h : p ≤ all.length) : (tgathF i0 all f p).1.length + p ≤ (tgathF i0 all f p).2 ∧ (tgathF i0 all f p).2 ≤ all.length := by
  induction f generalizing p with
  | zero => exact ⟨by simp [tgathF], h⟩
  | succ f ih =>
    by_cases hlt : p < all.length
    · have h1 := take_le ((segB all p).size + 1) (segB all p) 0 (Nat.zero_le _)
      have h2 := segB_size all p
      have h3 := notesT_len (1024 * i0 + p) (takeF ((segB all p).size + 1) (segB all p) 0).1
      rw [tgath_some hlt]
      split
      · dsimp only; omega
      · have := ih (p := p + (segB all p).size) (by omega)
        dsimp only
        rw [List.length_append]
        omega
    · rw [tgath_stop (by omega)]; exact ⟨by simp, h⟩
theorem GaI.next {w0 w wr w' : World} {tb : Nat} {t : TapeM} {g : Gh} {st : St} {m : RowM} {i0 : Nat} {all : List UInt8} {p f : Nat} {N : List (Int × Int × Int)} {v : Value} {e : Ending} (h : GaI w0 w wr tb t g st m i0 all p (f + 1) N v) (ht : TTakeTo w0 wr tb (t.noteL v N) g st m (1024 * i0 + p) (segB all p) e w') (hp : p < all.length) (hl : ¬ (takeF ((segB all p).size + 1) (segB all p) 0).2 < (segB all p).size) :
    ∃ N' v', GaI w0 w w' tb t g st m i0 all (p + (segB all p).size) f N' v' := by
  obtain ⟨v', h1, h2, h3⟩ := h.took ht
  have a1 := take_le ((segB all p).size + 1) (segB all p) 0 (Nat.zero_le _)
  have a2 := segB_size all p
  have a3 := notesT_len (1024 * i0 + p) (takeF ((segB all p).size + 1) (segB all p) 0).1
  have a4 := h.mult hp
  have a5 := h.len
  have a6 := h.fuel
  have he := h.eq
  rw [tgath_some hp, if_neg hl] at he
  exact ⟨_, v', h1, h2, h3, by rw [List.length_append]; omega, by omega, by omega, fun hq => by omega, by rw [he, List.append_assoc]⟩
theorem GaI.last {w0 w wr w' : World} {tb : Nat} {t : TapeM} {g : Gh} {st : St} {m : RowM} {i0 : Nat} {all : List UInt8} {p f : Nat} {N : List (Int × Int × Int)} {v : Value} {e : Ending} (h : GaI w0 w wr tb t g st m i0 all p (f + 1) N v) (ht : TTakeTo w0 wr tb (t.noteL v N) g st m (1024 * i0 + p) (segB all p) e w') (hp : p < all.length) (hl : (takeF ((segB all p).size + 1) (segB all p) 0).2 < (segB all p).size) :
    GatTo w0 w tb t g st m i0 all (.returned (.tuple #[.int .i64 ((1024 * i0 + p + (takeF ((segB all p).size + 1) (segB all p) 0).2 : Nat) : Int), .int .i64 0])) w' := by
  obtain ⟨v', h1, h2, h3⟩ := h.took ht
  have he := h.eq
  rw [tgath_some hp, if_pos hl] at he
  unfold GatTo
  rw [he]
  exact ⟨by rw [Nat.add_assoc], v', h1, h2, h3⟩
theorem GaI.end {w0 w wr : World} {tb : Nat} {t : TapeM} {g : Gh} {st : St} {m : RowM} {i0 : Nat} {all : List UInt8} {p f : Nat} {N : List (Int × Int × Int)} {v : Value} (h : GaI w0 w wr tb t g st m i0 all p f N v) (hp : all.length ≤ p) :
    GatTo w0 w tb t g st m i0 all (.returned (.tuple #[.int .i64 ((1024 * i0 + p : Nat) : Int), .int .i64 0])) wr := by
  have he := h.eq
  rw [tgath_stop hp, List.append_nil] at he
  unfold GatTo
  rw [he]
  exact ⟨rfl, v, h.tg, h.chg, h.foot⟩
theorem leftR_seg {n : Nat} {m : RowM} {st : St} {i0 j : Nat} {all : List UInt8} (hk : RowC n m st 1024 i0 j all) {p : Nat} (hp : p < all.length) (hm : p % 1024 = 0) : leftR m ((1024 * i0 + p : Nat) : Int) = ((segB all p).size : Int) := by
  unfold leftR
  rw [hk.row.beg, hk.row.end_, hk.row.size, segB_size, if_neg (by omega)]
  omega
theorem tg_left {w0 w wr w' : World} {tb : Nat} {t : TapeM} {g : Gh} {st : St} {m : RowM} {n i0 j p f : Nat} {all : List UInt8} {N : List (Int × Int × Int)} {v : Value} (h : GaI w0 w wr tb t g st m i0 all p f N v) (hk : RowC n m st 1024 i0 j all) (hal : 1024 * i0 + all.length ≤ 100000000) (hp : p < all.length) (hw : Below wr.heap.size wr w') :
    Calls Tryz.prog 70 #[.pointer (some ⟨t.rb, 0, none⟩), .int .i64 ((1024 * i0 + p : Nat) : Int)] w' fun e w2 => e = .returned (.int .i64 ((segB all p).size : Int)) ∧ Below w'.heap.size w' w2 := by
  have a1 := hk.row.beg
  have a2 := hk.row.end_
  have a3 := hk.row.size
  have hlr := leftR_seg hk hp (h.mult hp)
  have hc := rleft_any t.rb g.d m ((1024 * i0 + p : Nat) : Int) w' (h.new (below_chg' hw)).tg.row.row (by rw [a1]; omega) (by rw [a2]; omega) (by rw [a3]; omega) (by rw [a3]; omega)
  rw [hlr] at hc
  refine hc.mono ?_
  rintro e w2 ⟨rfl, q, rfl⟩
  exact ⟨rfl, below_drewN (Below.refl _ _) q⟩
theorem tg_read {w0 w wr w' : World} {tb : Nat} {t : TapeM} {g : Gh} {st : St} {m : RowM} {n i0 j p f : Nat} {all : List UInt8} {N : List (Int × Int × Int)} {v : Value} (h : GaI w0 w wr tb t g st m i0 all p f N v) (hk : RowC n m st 1024 i0 j all) (hp : p < all.length) (hw : Below wr.heap.size wr w') :
    Calls Tryz.prog 51 #[.pointer (some ⟨t.rb, 0, none⟩), .int .i64 ((1024 * i0 + p : Nat) : Int), .int .i64 ((segB all p).size : Int)] w' fun e w2 => e = .returned (.tuple #[.string (segB all p), .int .i64 0]) ∧ Below w'.heap.size w' w2 := by
  have hsz := segB_size all p
  have hm := h.mult hp
  have hc := c_read_in (h.new (below_chg' hw)).tg.row hk (1024 * i0 + p) (segB all p).size (by omega) (by omega) (by omega) (by omega)
  have e1 : (all.drop (1024 * i0 + p - 1024 * i0)).take (segB all p).size = (all.drop p).take 1024 := by
    rw [show 1024 * i0 + p - 1024 * i0 = p from by omega]
    refine List.take_eq_take_iff.2 ?_
    rw [List.length_drop, hsz]
    omega
  rw [e1] at hc
  exact hc
set_option maxHeartbeats 4000000 in
set_option maxRecDepth 100000 in
theorem tgather_any {w0 w : World} {tb : Nat} {t : TapeM} {g : Gh} {st : St} {m : RowM} {n i0 j : Nat} {all : List UInt8} (h : TapeG w0 w tb t g st m) (hk : RowC n m st 1024 i0 j all) (hal : 1024 * i0 + all.length ≤ 100000000) (hal2 : all.length ≤ 200000) (hml : t.M.length ≤ 500000) (hil : t.ids.length ≤ 500000) :
    Calls Tryz.prog 37 #[.pointer (some ⟨tb, 0, none⟩)] w (GatTo w0 w tb t g st m i0 all) := by
  have HI0 : Hid (GaI w0 w w tb t g st m i0 all 0 (all.length + 1) [] t.v) := Lib.hid ⟨by rw [noteL_nil]; exact h, Chg.refl _ _, fun q hq => .inl (by rw [noteL_nil] at hq; exact hq), Nat.le_refl _, Nat.zero_le _, by omega, fun _ => rfl, by simp⟩
  have hb := tbegin_any h
  rw [hk.row.beg] at hb
  have HB := Lib.hid hb
  have HK := Lib.hid hk
  obtain ⟨le, hle⟩ : ∃ le, le = all.length := ⟨_, rfl⟩
  have HLE := Lib.hid hle
  rw [← hle] at hal hal2
  clear h hk hb hle
  go_enter Tryz.func37, Tryz.ntmps37
  go_wp2_with fail
  refine HB.out.mono ?_
  rintro e w1 ⟨rfl, rfl⟩
  go_wp2_with fail
  go_loopw [4] (fun av wr => ∃ (p f : Nat) (N : List (Int × Int × Int)) (v : Value), av = .int .i64 ((1024 * i0 + p : Nat) : Int) ∧ GaI w0 w wr tb t g st m i0 all p f N v) (fun av _ => 1024 * i0 + le - (intOf av).toNat)
  case atStart => exact ⟨0, _, [], t.v, rfl, HI0.out⟩
  case round =>
    obtain ⟨p, fl, N, v, rfl, hI⟩ := hrel
    have HI := Lib.hid hI
    have hpl : p ≤ le := by rw [HLE.out]; exact hI.le_
    have hend := tend_any hI.tg
    rw [HK.out.row.end_, ← HLE.out] at hend
    have HE := Lib.hid hend
    clear hI hend
    obtain ⟨at_, hat⟩ : ∃ a, a = 1024 * i0 + p := ⟨_, rfl⟩
    obtain ⟨en, hen⟩ : ∃ a, a = 1024 * i0 + le := ⟨_, rfl⟩
    rw [← hen] at HE ⊢
    rw [← hat]
    have HHT := Lib.hid hat
    have HEN := Lib.hid hen
    clear hat hen
    go_wp2_with fail
    refine HE.out.mono ?_
    rintro e w2 ⟨rfl, rfl⟩
    by_cases hlt : p < le
    · have hat := HHT.out
      have hlt' : at_ < en := by have := HEN.out; omega
      have hltA : p < all.length := by rw [← HLE.out]; exact hlt
      have hm := HI.out.mult hltA
      obtain ⟨s, hs⟩ : ∃ s, s = segB all p := ⟨_, rfl⟩
      obtain ⟨lf, hlf⟩ : ∃ lf, lf = s.size := ⟨_, rfl⟩
      have hlf2 : lf = min 1024 (le - p) := by rw [hlf, hs, segB_size, HLE.out]
      have HC0 : Hid (∀ w', Below wr.heap.size wr w' → w'.cell? ⟨tb, 0, none⟩ = some (.pointer (some ⟨t.rb, 0, none⟩))) := Lib.hid (fun w' hw => (HI.out.new (below_chg' hw)).tg.tape.cell.1)
      have HLEFT : Hid (∀ w', Below wr.heap.size wr w' → Calls Tryz.prog 70 #[.pointer (some ⟨t.rb, 0, none⟩), .int .i64 (at_ : Int)] w' fun e w2 => e = .returned (.int .i64 (lf : Int)) ∧ Below w'.heap.size w' w2) := Lib.hid (fun w' hw => by
        rw [hat, hlf, hs]
        exact tg_left HI.out HK.out (by rw [← HLE.out]; omega) hltA hw)
      have HREAD : Hid (∀ w', Below wr.heap.size wr w' → Calls Tryz.prog 51 #[.pointer (some ⟨t.rb, 0, none⟩), .int .i64 (at_ : Int), .int .i64 (lf : Int)] w' fun e w2 => e = .returned (.tuple #[.string s, .int .i64 0]) ∧ Below w'.heap.size w' w2) := Lib.hid (fun w' hw => by
        rw [hat, hlf, hs]
        exact tg_read HI.out HK.out hltA hw)
      have hb1 : at_ + lf ≤ 100000000 := by omega
      have HS := Lib.hid hs
      have HLF := Lib.hid hlf
      have HLF2 := Lib.hid hlf2
      clear hm hat hs hlf hlf2
      go_upto_region 3 with fail
      refine region_inv' (n := 44) rfl rfl (by kernel_rfl) (by kernel_rfl) (fun i v _ => match i with | 0 => v = .pointer (some ⟨tb, 0, none⟩) | 1 => v = .pointer (some ⟨tb, 0, none⟩) | 2 => v = .pointer (some ⟨tb, 0, none⟩) | 3 => v = .pointer (some ⟨t.rb, 0, none⟩) | 4 => v = .int .i64 (at_ : Int) | 5 => v = .pointer (some ⟨tb, 0, none⟩) | 6 => v = .pointer (some ⟨tb, 0, none⟩) | 7 => v = .pointer (some ⟨tb, 0, none⟩) | 8 => v = .pointer (some ⟨t.rb, 0, none⟩) | 9 => v = .int .i64 (at_ : Int) | 10 => v = .int .i64 (lf : Int) | 11 => v = .tuple #[.string s, .int .i64 0] | 12 => v = .tuple #[.string s, .int .i64 0] | 13 => v = .string s | 14 => v = .int .i64 0 | 15 => v = .string s | 16 => v = .int .i64 0 | _ => True)
        (fun w' => Below wr.heap.size wr w') (fun w' w2 => Below wr.heap.size w' w2) (fun w' => Below.refl _ _) (fun _ _ _ _ _ h => h) (Below.refl _ _).drew ?_ ?_
      · simp only [AllAt]
        refine ⟨?_, ?_, ?_, ?_, ?_, ?_, ?_, ?_, ?_, ?_, ?_, ?_, ?_, ?_, ?_, ?_, ?_, trivial⟩
        · refine StepAt.plain rfl ?_
          intro f w' hG hfr hp Kx hK
          have g0 : f 0 = .pointer (some ⟨tb, 0, none⟩) := hfr 0 (by kernel_rfl)
          clear hfr hp
          go_simp
          exact hK _ _ rfl hG (Below.refl _ _)
        · refine StepAt.plain rfl ?_
          intro f w' hG hfr hp Kx hK
          have g15 : f 15 = .pointer (some ⟨tb, 0, none⟩) := hp 0 _ 15 rfl rfl (by kernel_rfl)
          clear hfr hp
          go_simp
          exact hK _ _ rfl hG (Below.refl _ _)
        · refine StepAt.plain rfl ?_
          intro f w' hG hfr hp Kx hK
          have g16 : f 16 = .pointer (some ⟨tb, 0, none⟩) := hp 1 _ 16 rfl rfl (by kernel_rfl)
          clear hfr hp
          go_simp
          exact hK _ _ rfl hG (Below.refl _ _)
        · refine StepAt.plain rfl ?_
          intro f w' hG hfr hp Kx hK
          have g17 : f 17 = .pointer (some ⟨tb, 0, none⟩) := hp 2 _ 17 rfl rfl (by kernel_rfl)
          clear hfr hp
          have hc0 := HC0.out w' hG
          go_simp
          exact hK _ _ rfl hG (Below.refl _ _)
        · refine StepAt.plain rfl ?_
          intro f w' hG hfr hp Kx hK
          have g4 : f 4 = .int .i64 (at_ : Int) := hfr 4 (by kernel_rfl)
          clear hfr hp
          go_simp
          exact hK _ _ rfl hG (Below.refl _ _)
        · refine StepAt.plain rfl ?_
          intro f w' hG hfr hp Kx hK
          have g0 : f 0 = .pointer (some ⟨tb, 0, none⟩) := hfr 0 (by kernel_rfl)
          clear hfr hp
          go_simp
          exact hK _ _ rfl hG (Below.refl _ _)
        · refine StepAt.plain rfl ?_
          intro f w' hG hfr hp Kx hK
          have g20 : f 20 = .pointer (some ⟨tb, 0, none⟩) := hp 5 _ 20 rfl rfl (by kernel_rfl)
          clear hfr hp
          go_simp
          exact hK _ _ rfl hG (Below.refl _ _)
        · refine StepAt.plain rfl ?_
          intro f w' hG hfr hp Kx hK
          have g21 : f 21 = .pointer (some ⟨tb, 0, none⟩) := hp 6 _ 21 rfl rfl (by kernel_rfl)
          clear hfr hp
          go_simp
          exact hK _ _ rfl hG (Below.refl _ _)
        · refine StepAt.plain rfl ?_
          intro f w' hG hfr hp Kx hK
          have g22 : f 22 = .pointer (some ⟨tb, 0, none⟩) := hp 7 _ 22 rfl rfl (by kernel_rfl)
          clear hfr hp
          have hc0 := HC0.out w' hG
          go_simp
          exact hK _ _ rfl hG (Below.refl _ _)
        · refine StepAt.plain rfl ?_
          intro f w' hG hfr hp Kx hK
          have g4 : f 4 = .int .i64 (at_ : Int) := hfr 4 (by kernel_rfl)
          clear hfr hp
          go_simp
          exact hK _ _ rfl hG (Below.refl _ _)
        · refine StepAt.plain rfl ?_
          intro f w' hG hfr hp Kx hK
          have g23 : f 23 = .pointer (some ⟨t.rb, 0, none⟩) := hp 8 _ 23 rfl rfl (by kernel_rfl)
          have g24 : f 24 = .int .i64 (at_ : Int) := hp 9 _ 24 rfl rfl (by kernel_rfl)
          clear hfr hp
          go_simp
          refine (HLEFT.out w' hG).mono ?_
          rintro e w2 ⟨rfl, hb⟩
          exact hK _ _ rfl (Below.trans hG (Below.mono hb hG.size)) (Below.mono hb hG.size)
        · refine StepAt.plain rfl ?_
          intro f w' hG hfr hp Kx hK
          have g18 : f 18 = .pointer (some ⟨t.rb, 0, none⟩) := hp 3 _ 18 rfl rfl (by kernel_rfl)
          have g19 : f 19 = .int .i64 (at_ : Int) := hp 4 _ 19 rfl rfl (by kernel_rfl)
          have g25 : f 25 = .int .i64 (lf : Int) := hp 10 _ 25 rfl rfl (by kernel_rfl)
          clear hfr hp
          go_simp
          refine (HREAD.out w' hG).mono ?_
          rintro e w2 ⟨rfl, hb⟩
          exact hK _ _ rfl (Below.trans hG (Below.mono hb hG.size)) (Below.mono hb hG.size)
        · refine StepAt.plain rfl ?_
          intro f w' hG hfr hp Kx hK
          have g26 : f 26 = .tuple #[.string s, .int .i64 0] := hp 11 _ 26 rfl rfl (by kernel_rfl)
          clear hfr hp
          go_simp
          exact hK _ _ rfl hG (Below.refl _ _)
        · refine StepAt.plain rfl ?_
          intro f w' hG hfr hp Kx hK
          have g14 : f 14 = .tuple #[.string s, .int .i64 0] := hp 12 _ 14 rfl rfl (by kernel_rfl)
          clear hfr hp
          go_simp
          exact hK _ _ rfl hG (Below.refl _ _)
        · refine StepAt.plain rfl ?_
          intro f w' hG hfr hp Kx hK
          have g14 : f 14 = .tuple #[.string s, .int .i64 0] := hp 12 _ 14 rfl rfl (by kernel_rfl)
          clear hfr hp
          go_simp
          exact hK _ _ rfl hG (Below.refl _ _)
        · refine StepAt.plain rfl ?_
          intro f w' hG hfr hp Kx hK
          have g27 : f 27 = .string s := hp 13 _ 27 rfl rfl (by kernel_rfl)
          clear hfr hp
          go_simp
          exact hK _ _ rfl hG (Below.refl _ _)
        · refine StepAt.plain rfl ?_
          intro f w' hG hfr hp Kx hK
          have g28 : f 28 = .int .i64 0 := hp 14 _ 28 rfl rfl (by kernel_rfl)
          clear hfr hp
          go_simp
          exact hK _ _ rfl hG (Below.refl _ _)
      · intro f w5 hG hfr hR
        have hback := fr_back (n := 44) (f := f) (D := [5, 6, 14, 15, 16, 17, 18, 19, 20, 21, 22, 23, 24, 25, 26, 27, 28]) rfl (by kernel_rfl) hfr
        have y14 : f 14 = .tuple #[.string s, .int .i64 0] := hR 12 _ 14 rfl rfl
        have y27 : f 27 = .string s := hR 13 _ 27 rfl rfl
        have y28 : f 28 = .int .i64 0 := hR 14 _ 28 rfl rfl
        have y5 : f 5 = .string s := hR 15 _ 5 rfl rfl
        have y6 : f 6 = .int .i64 0 := hR 16 _ 6 rfl rfl
        rw [hback]
        simp only [mixL, List.elem_eq_contains, List.contains_cons, List.contains_nil, Nat.reduceBEq, Nat.reduceAdd, Bool.or_false, Bool.or_true, Bool.false_or, Bool.true_or, cond_false, cond_true, Bool.or_self, Nat.zero_add, y14, y27, y28, y5, y6]
        have HG5 := Lib.hid hG
        clear hR hG hfr hback y14 y27 y28 y5 y6
        have hat := HHT.out
        have hs := HS.out
        have hlf := HLF.out
        have hlf2 := HLF2.out
        have HI5 := Lib.hid (HI.out.new (below_chg' HG5.out))
        have hln := noteL_len t v N
        have hnl := HI5.out.len
        have hTK := ttake_any HI5.out.tg at_ (by omega) s (by omega) (by omega) (by omega)
        have HTK := Lib.hid hTK
        clear hTK hln hnl HG5 HREAD HLEFT HC0 HE HI hat hs hlf hlf2
        go_wp2_with fail
        refine HTK.out.mono ?_
        intro e w6 hto
        have hat := HHT.out
        have hs := HS.out
        have hlf := HLF.out
        have hlf2 := HLF2.out
        rw [hat, hs] at hto
        obtain ⟨hev, _⟩ := id hto
        obtain ⟨k, hkk⟩ : ∃ k, k = (takeF ((segB all p).size + 1) (segB all p) 0).2 := ⟨_, rfl⟩
        have hks := (take_le ((segB all p).size + 1) (segB all p) 0 (Nat.zero_le _)).1
        have hfu := HI5.out.fuel
        obtain ⟨f', hf'⟩ : ∃ f', fl = f' + 1 := ⟨fl - 1, by omega⟩
        subst hf'
        rw [← hkk] at hev hks
        rw [← hs, ← hlf] at hks
        by_cases hkl : k < lf
        · have HD := Lib.hid (HI5.out.last hto hltA (by rw [← hkk, ← hs, ← hlf]; exact hkl))
          rw [← hkk] at HD
          have hll : ((s.size : Nat) : Int) = (lf : Int) := by rw [hlf]
          clear hto hkk hat hs hlf hlf2
          subst hev
          go_wp2_with fail
          refine bodyPost_ret (v := .tuple #[.int .i64 ((1024 * i0 + p + k : Nat) : Int), .int .i64 0]) ?_ rfl HD.out
          simp [results, Tryz.results37, go_sem]
          have hat := HHT.out
          omega
        · obtain ⟨N', v', hI6⟩ := HI5.out.next hto hltA (by rw [← hkk, ← hs, ← hlf]; exact hkl)
          rw [← hs, ← hlf] at hI6
          have HI6 := Lib.hid hI6
          have hk : k = lf := by omega
          subst hk
          have hll : ((s.size : Nat) : Int) = (k : Int) := by rw [hlf]
          clear hto hkk hat hs hI6 hlf
          subst hev
          go_wp2_with fail
          have hat := HHT.out
          exact ⟨⟨p + k, f', N', v', by go_num, HI6.out⟩, by simp [intOf]; omega⟩
    · have HD := Lib.hid (HI.out.end (by rw [← HLE.out]; omega))
      rw [← HHT.out] at HD
      have hlt' : ¬ at_ < en := by have := HEN.out; have := HHT.out; omega
      go_wp2_with fail
      refine bodyPost_ret (v := .tuple #[.int .i64 (at_ : Int), .int .i64 0]) ?_ rfl HD.out
      simp [results, Tryz.results37, go_sem]
end Go.Proofs.YtccfkhlcnpfkiaaGreatDoor
namespace Go.Proofs.YtccfkhlcnpfkiaaGreatDoor
open Go.RowKit Go.Deep
def tape0 (rb cb mb : Nat) : TapeM := ⟨rb, cb, mb, .slice none 0 0, [], 0, []⟩
def TOpenTo (w0 w : World) (g : Gh) (st : St) (n i0 j : Nat) (all : List UInt8) (e : Ending) (w' : World) : Prop :=
  ∃ tb rb cb mb v' g' m' st' j', e = .returned (.tuple #[.pointer (some ⟨tb, 0, none⟩), .int .i64 0]) ∧ w.heap.size ≤ tb ∧ TapeG w0 w' tb ((tape0 rb cb mb).noteL v' (tgathF i0 all (all.length + 1) 0).1) g' st' m' ∧ g'.d = g.d ∧ m'.head = tH ∧ m'.synced = ((1024 * i0 + (all.take (tgathF i0 all (all.length + 1) 0).2).length : Nat) : Int) ∧ (i0 < j → i0 < j') ∧ (i0 = j → i0 = j') ∧ RowC n m' st' 1024 i0 j' (all.take (tgathF i0 all (all.length + 1) 0).2) ∧ st'.cap = st.cap ∧
    Chg (fun q => q ∈ g.fp) w w' ∧ Others tH st st' ∧ (∀ q ∈ ((tape0 rb cb mb).noteL v' (tgathF i0 all (all.length + 1) 0).1).foot tb, w.heap.size ≤ q) ∧ w.heap.size ≤ rb ∧ ∀ q ∈ g'.fp, q ∈ g.fp ∨ w.heap.size ≤ q
set_option maxHeartbeats 4000000 in
set_option maxRecDepth 100000 in
theorem topen_any {w0 w : World} {d : Nat} {g : Gh} {st : St} {m : RowM} {n i0 j : Nat} {all : List UInt8} (hd : DiskG w0 w d g st) (ht : Tab10 w0) (hk : RowC n m st 1024 i0 j all) (hn : n ≤ 1000) (hmh : m.head = tH) (hal : 1024 * i0 + all.length ≤ 100000000) (hal2 : all.length ≤ 200000) :
    Calls Tryz.prog 8 #[.pointer (some ⟨d, 0, none⟩)] w (TOpenTo w0 w g st n i0 j all) := by
  have hS := c_open hd ht hk (by omega)
  rw [hmh] at hS
  have hql := (tgath_len (i0 := i0) (f := all.length + 1) (all := all) (Nat.zero_le _)).2
  obtain ⟨N, hN⟩ : ∃ N, N = (tgathF i0 all (all.length + 1) 0).1 := ⟨_, rfl⟩
  obtain ⟨qq, hqq⟩ : ∃ q, q = (tgathF i0 all (all.length + 1) 0).2 := ⟨_, rfl⟩
  obtain ⟨Q, hQ⟩ : ∃ q, q = 1024 * i0 + qq := ⟨_, rfl⟩
  rw [← hqq] at hql
  have HN := Lib.hid hN
  have HQQ := Lib.hid hqq
  have HQB := Lib.hid hQ
  have HQL := Lib.hid hql
  clear hN hqq hQ hql hk hmh
  unfold tH at hS
  have HS := Lib.hid hS
  have HD := Lib.hid hd
  have HAL := Lib.hid hal
  have HAL2 := Lib.hid hal2
  clear hS hd hal hal2
  go_enter Tryz.func8, Tryz.ntmps8
  go_wp2_with fail
  refine HS.out.mono ?_
  rintro e w1 ⟨rb, rfl, hrb, g1, m1, q1, q2, q3, q4, q5⟩
  have hC := Cr.new_any w1
  have HC := Lib.hid hC
  have HQ := Lib.hid (And.intro q1 (And.intro q2 (And.intro q3 (And.intro q4 q5))))
  have HRB := Lib.hid hrb
  have hmm := @run_makeMap Tryz.prog
  clear q1 q2 q3 q4 q5 hrb hC
  go_wp2_with fail
  refine HC.out.mono ?_
  rintro e w2 ⟨rfl, htb, hb2⟩
  obtain ⟨t0, ht0⟩ : ∃ t0 : TapeM, t0 = ⟨rb, w1.heap.size, w2.heap.size, .slice none 0 0, [], 0, []⟩ := ⟨_, rfl⟩
  obtain ⟨W3, hW3⟩ : ∃ W, W = (w2.alloc (.map #[] 0)).alloc (.cells (t0.cells d) 80) := ⟨_, rfl⟩
  have hb3 : Below w1.heap.size w1 W3 := hW3 ▸ (hb2.alloc hb2.size _).alloc (Nat.le_trans hb2.size (by simp)) _
  have h23 : Below w2.heap.size w2 W3 := hW3 ▸ ((Below.refl _ _).alloc (Nat.le_refl _) _).alloc (by simp) _
  have hg3 : TapeG w0 W3 (w2.heap.size + 1) t0 g1 st m1 := by
    obtain ⟨q1, q2, q3, q4, q5⟩ := HQ.out
    have hl1 := q1.chg.size
    have hlt : w1.heap.size < w2.heap.size := htb.lt
    refine ⟨by rw [ht0]; exact q1.new (Chg.of_below hb3), ⟨?_, ?_, ?_, ?_, ?_, ?_⟩, fun q hq => ?_⟩
    · rw [hW3, q2.d, HD.out.d]
      have := heap_alloc_new (w2.alloc (.map #[] 0)) (.cells (t0.cells d) 80 (0, 0))
      rwa [World.size_alloc] at this
    · rw [ht0]
      exact World.rowIs.of_block htb (h23.block _ htb.lt)
    · rw [ht0]
      refine (MapK.made w2).heap ?_
      rw [hW3]
      exact Below.heap_alloc _ _ _ (by simp)
    · rw [ht0]
      exact ownI_nil _ _
    · rw [ht0]
      simp [TapeM.foot, Value.ownBlock]
      omega
    · intro q hq
      rw [ht0] at hq
      simp [TapeM.foot, Value.ownBlock] at hq
      omega
    · rw [ht0] at hq
      simp [TapeM.foot, Value.ownBlock] at hq
      have hr := q1.row.lt
      refine ⟨?_, fun hx => ?_⟩
      · rw [ht0]
        show q ≠ rb
        omega
      · have := q1.disk.lt q hx
        omega
  have hga := tgather_any hg3 HQ.out.2.2.2.2 HAL.out HAL2.out (by rw [ht0]; simp) (by rw [ht0]; simp)
  unfold GatTo at hga
  rw [← HN.out, ← HQQ.out, ← HQB.out] at hga
  have HGA := Lib.hid hga
  have HCU : Hid (∀ W4 v', TapeG w0 W4 (w2.heap.size + 1) (t0.noteL v' N) g1 st m1 → Calls Tryz.prog 38 #[.pointer (some ⟨rb, 0, none⟩), .int .i64 (Q : Int)] W4 fun e w' => e = .returned (.int .i64 0) ∧ ∃ j', (i0 < j → i0 < j') ∧ (i0 = j → i0 = j') ∧ CTo w0 W4 t0.rb g1 st m1.head n 1024 i0 j' (all.take (Q - 1024 * i0)) (min m1.synced (Q : Int)) w') := Lib.hid (fun W4 v' hW4 => by
    have hq := HQB.out
    have hl := HQL.out
    have h0 : t0.rb = rb := by rw [ht0]
    have hsy : m1.synced = ((1024 * i0 : Nat) : Int) := HQ.out.2.2.2.1
    have hen := HQ.out.2.2.2.2.row.end_
    rw [← h0]
    exact c_cut hW4.row HQ.out.2.2.2.2 (by omega) Q (by omega) (by omega) (by rw [hsy, hen]; omega))
  have HG3 := Lib.hid hg3
  have HB3 := Lib.hid hb3
  have HT0 := Lib.hid ht0
  have HLT12 := Lib.hid (show w1.heap.size < w2.heap.size from htb.lt)
  rw [ht0] at hW3
  unfold TapeM.cells at hW3
  have HW3 := Lib.hid hW3
  clear hga hg3 hb3 ht0 hW3 h23 htb hb2
  go_upto_region 5 with fail
  rw [← HW3.out]
  clear hmm
  go_wp2_with fail
  refine HGA.out.mono ?_
  rintro e w3 ⟨rfl, v', hg4, hch4, hft4⟩
  obtain ⟨c0, _, _, _, _, _, _⟩ := hg4.tape.cell
  have hrb0 : t0.rb = rb := by rw [HT0.out]
  rw [show (t0.noteL v' N).rb = rb from hrb0] at c0
  have HG4 := Lib.hid (And.intro hg4 (And.intro hch4 hft4))
  clear hg4 hch4 hft4 hrb0
  go_wp2_with fail
  refine (HCU.out w3 v' HG4.out.1).mono ?_
  rintro e w4 ⟨rfl, j', hj1, hj2, g2, m2, st2, p1, p2, p3, p4, p5, p6, p7⟩
  have hrb0 : t0.rb = rb := by rw [HT0.out]
  have hT4 := HG4.out.1.step p1 p2
  have HJ := Lib.hid (And.intro hj1 hj2)
  have HSY := Lib.hid (tsync_any hT4 p6 (by omega))
  have HP := Lib.hid (And.intro p2 (And.intro p4 (And.intro p7 p3)))
  have HRB0 := Lib.hid hrb0
  clear hj1 hj2 p1 p2 p3 p4 p5 p6 p7 hrb0 hT4 c0
  go_wp2_with fail
  refine HSY.out.mono ?_
  rintro e w5 ⟨rfl, g3, m3, st3, r1, r2, r3, r4, r5, r6, r7, r8, r9⟩
  have HR := Lib.hid (And.intro r1 (And.intro r2 (And.intro r3 (And.intro r4 (And.intro r5 (And.intro r6 r7))))))
  have HOT := Lib.hid (And.intro HP.out.2.2.2 (And.intro r8 r9))
  clear r1 r2 r3 r4 r5 r6 r7 r8 r9
  go_wp2_with fail
  go_ret2
  obtain ⟨r1, r2, r3, r4, r5, r6, r7⟩ := HR.out
  obtain ⟨p2, p4, p7, p3⟩ := HP.out
  obtain ⟨q1, q2, q3, q4, q5⟩ := HQ.out
  have s1 := q2.chg.size
  have s3 := HB3.out.size
  have e0 := HRB.out
  have e1 := HRB0.out
  have htl : w.heap.size ≤ w2.heap.size + 1 := by
    have := HG3.out.tape.lt _ (mem_foot_cb t0 _)
    have h5 := HG3.out.tape.apart
    have h6 := HG3.out.tape.low
    have h7 : w1.heap.size < w2.heap.size := by
      have := HW3.out
      have hx := HB3.out
      exact HLT12.out
    omega
  have hq := HQB.out
  have htk : all.take (Q - 1024 * i0) = all.take (tgathF i0 all (all.length + 1) 0).2 := by rw [← HQQ.out]; congr 1; omega
  rw [htk] at r4 r5
  have ht0 : t0 = tape0 rb w1.heap.size w2.heap.size := HT0.out
  have hfr : ∀ q ∈ t0.foot (w2.heap.size + 1), w.heap.size ≤ q := fun q hq => by
    have h7 : w1.heap.size < w2.heap.size := HLT12.out
    rw [ht0] at hq
    simp [tape0, TapeM.foot, Value.ownBlock] at hq
    omega
  rw [HN.out, ht0] at r1
  have a2 : Chg (fun q => q ∈ g.fp) w W3 := q2.chg.trans (Chg.of_below (S := fun _ => False) HB3.out) (fun _ _ x => x.elim)
  have a4 : Chg (fun q => q ∈ g.fp) w w3 := a2.trans HG4.out.2.1 (fun i hi x => by have := hfr i x; omega)
  have s4 := a4.size
  have a3 : Chg (fun q => q ∈ g.fp) w w4 := a4.trans p2.chg (fun i hi x => by
    rcases x with x | x
    · omega
    · rcases q2.fp i x with y | y
      · exact y
      · omega)
  refine ⟨_, rb, w1.heap.size, w2.heap.size, v', g3, m3, st3, j', rfl, htl, r1, r2.trans (p2.d.trans q2.d), r3.trans (p4.trans q3), r4, HJ.out.1, HJ.out.2, r5, r6.trans p7, ?_, ?_, fun q hq => ?_, e0, fun q hq => ?_⟩
  · refine a3.trans r7 (fun i hi x => ?_)
    rcases x with x | x
    · have : (t0.noteL v' N).rb = t0.rb := rfl
      omega
    · rcases p2.fp i x with y | y
      · rcases q2.fp i y with z | z
        · exact z
        · omega
      · omega
  · have o1 := HOT.out.1
    have o2 := HOT.out.2.2
    rw [p4, q3] at o2
    rw [q3] at o1
    exact o1.trans o2
  · have := HG4.out.2.2 q (by rw [HN.out, ht0]; exact hq)
    have s3 := HB3.out.size
    rcases this with x | x
    · exact hfr q x
    · omega
  · have s3 := HB3.out.size
    have s4 := a4.size
    have s5 := a3.size
    rcases HOT.out.2.1 q hq with x | x
    · rcases x with x | x
      · have e9 : (t0.noteL v' N).rb = t0.rb := rfl
        right; omega
      · rcases p2.fp q x with y | y
        · rcases q2.fp q y with z | z
          · exact .inl z
          · right; omega
        · right; omega
    · right; omega
end Go.Proofs.YtccfkhlcnpfkiaaGreatDoor
