/- A part. -/
import Derived.Test.YtdnhgodfmjapmaaGreatDoorDon45
import Derived.Test.YtdnhgodfmjapmaaGreatDoorDon52
set_option linter.unusedVariables false
set_option linter.unusedSimpArgs false
namespace Go.Proofs.YtdnhgodfmjapmaaGreatDoor
open Go.RowKit Go.Deep
def zeros24 : ByteArray := ⟨(List.replicate 24 (0 : UInt8)).toArray⟩
def kSt (c : Int) : Nat → St
  | 0 => newSt c
  | 1 => createS (newSt c) xL
  | _ => createS (createS (newSt c) xL) xS
def kNm : Nat → ByteArray
  | 0 => xL
  | _ => xS
def kEnd (c : Int) : St := writeS (kSt c 2) xS ((0 : Nat) : Int) zeros24
theorem kSt_facts (c : Int) (h0 : 24 ≤ c) (h1 : c ≤ 16777216) :
    (∀ j, j < 2 → createE (kSt c j) (kNm j) = 0 ∧ createS (kSt c j) (kNm j) = kSt c (j + 1) ∧ Calm 2 (kSt c j)) ∧ Calm 2 (kSt c 2) ∧
    writeE (kSt c 2) xS ((0 : Nat) : Int) zeros24 = 0 ∧ Calm 3 (kEnd c) ∧ (∃ f, (kEnd c).find xL = some f ∧ f.bytes = linksB []) ∧ (∃ f, (kEnd c).find xS = some f ∧ f.bytes = slotsB []) ∧ (kEnd c).size = 24 ∧ (kEnd c).cap = c.toNat ∧ (∃ f, (kSt c 2).find xS = some f ∧ f.bytes = [] ∧ f.writes = []) := by
  have k0 : Calm 0 (newSt c) := ⟨Good.new c, rfl, rfl⟩
  have f0 : (newSt c).find xL = none := rfl
  have e1 := k0.createS f0
  have k1 := k0.create f0
  have f1 : (createS (newSt c) xL).find xS = none := by rw [e1]; rfl
  have e2 := k1.createS f1
  have k2 := k1.create f1
  have s2 : kSt c 2 = createS (createS (newSt c) xL) xS := rfl
  have g2 : (kSt c 2).find xS = some emptyF := by rw [s2, e2, e1]; rfl
  have g1 : (kSt c 2).find xL = some emptyF := by rw [s2, e2, e1]; rfl
  have hc2 : (kSt c 2).cap = c.toNat := by rw [s2, e2, e1]; show (min (max c 0) 16777216).toNat = _; omega
  have hz2 : (kSt c 2).size = 0 := by rw [s2, e2, e1]; rfl
  have hzz : zeros24.size = 24 := by decide
  have hmo : more emptyF 0 zeros24.size = 24 := by decide
  obtain ⟨w1, w2, w3⟩ := calm_writeA (a := 0) (s := zeros24) (show Calm 2 (kSt c 2) from k2) g2 (Nat.zero_le _) (by rw [hmo]; omega) (by rw [hzz]; decide)
  rw [hmo] at w2
  refine ⟨fun j hj => ?_, k2, w1, w3, ⟨emptyF, ?_, rfl⟩, ⟨_, by unfold kEnd; rw [w2]; exact findS_same g2, (by show putB [] 0 zeros24.data.toList = slotsB []; decide +kernel)⟩, by unfold kEnd; rw [w2, hz2], by unfold kEnd; rw [w2]; exact hc2, ⟨_, g2, rfl, rfl⟩⟩
  · match j, hj with
    | 0, _ => exact ⟨k0.createE f0, rfl, ⟨k0.good.more (by decide), k0.lit, k0.down⟩⟩
    | 1, _ => exact ⟨k1.createE f1, rfl, ⟨k1.good.more (by decide), k1.lit, k1.down⟩⟩
  · unfold kEnd
    rw [w2, findS_other xLS]
    exact g1
theorem krefuses_any (c : Int) (h0 : 24 ≤ c) (h1 : c ≤ 16777216) (xb : Nat) (g : Gh) (w : World) (hd : DiskAt w g (newSt c)) (hx : w.cell? ⟨xb, 0, none⟩ = some (.pointer (some ⟨g.d, 0, none⟩))) (a : Option Addr) (cap : Nat) :
    Calls Tryz.prog 107 #[.pointer (some ⟨xb, 0, none⟩), .slice a 0 cap] w fun e w' => e = .returned (.int .i64 0) ∧ ∃ k, w' = w.drewN k := by
  have hD : Calls Tryz.prog 70 #[.pointer (some ⟨g.d, 0, none⟩)] w fun e w' => e = .returned (.bool false) ∧ w = w' := down_any g (newSt c) w hd
  have hcap : (newSt c).cap = c.toNat := by show (min (max c 0) 16777216).toNat = _; omega
  have hR := room_any g (newSt c) w hd (by show 0 ≤ _; omega) (by rw [hcap]; omega)
  have e : ((newSt c).cap : Int) - (newSt c).size = c := by rw [hcap]; show ((c.toNat : Nat) : Int) - ((0 : Nat) : Int) = c; omega
  rw [e] at hR
  have HD := Lib.hid hD
  have HR := Lib.hid hR
  clear hd hD hR hcap e
  have g1 : ¬ c < 24 := by omega
  go_enter Tryz.func107, Tryz.ntmps107
  go_wp2_with fail
  refine HD.out.mono ?_
  rintro e w1 ⟨rfl, rfl⟩
  go_wp2_with fail
  refine HR.out.mono ?_
  rintro e w1 ⟨rfl, y, rfl⟩
  go_wp2_with fail
  go_loopw [5, 20] (fun r i wr => r = .int .i64 c ∧ i = .int .i64 0 ∧ wr = w.drewN y) (fun _ _ _ => 0)
  case atStart => exact ⟨rfl, rfl, rfl⟩
  case round =>
    obtain ⟨rfl, rfl, rfl⟩ := hrel
    go_wp2_with fail
    go_ret
    exact ⟨rfl, y, rfl⟩
def KBegTo (c : Int) (g : Gh) (w : World) (e : Ending) (w' : World) : Prop := e = .returned (.int .i64 0) ∧ ∃ g', DiskAt w' g' (kEnd c) ∧ Gh.To w g g' w'
set_option maxHeartbeats 2000000 in
set_option maxRecDepth 100000 in
theorem kbegin_any (c : Int) (h0 : 24 ≤ c) (h1 : c ≤ 16777216) (xb : Nat) (g : Gh) (w : World) (hd : DiskAt w g (newSt c)) (hx : w.heap[xb]? = some (.cells #[.pointer (some ⟨g.d, 0, none⟩), .int .i64 0] 103 (0, 0))) (hout : xb ∉ g.fp) (a : Option Addr) (cap : Nat) :
    Calls Tryz.prog 57 #[.pointer (some ⟨xb, 0, none⟩), .slice a 0 cap] w (KBegTo c g w) := by
  obtain ⟨hcr, hk2, hwe, hke, _, _, _, _, hf2⟩ := kSt_facts c h0 h1
  have hx0 : w.cell? ⟨xb, 0, none⟩ = some (.pointer (some ⟨g.d, 0, none⟩)) := by simp [World.cell?, hx]
  have HRF := Lib.hid (krefuses_any c h0 h1 xb g w hd hx0 a cap)
  have HCR : Hid (∀ j, j < 2 → ∀ (W : World) (g' : Gh), DiskAt W g' (kSt c j) → g'.d = g.d → Calls Tryz.prog 108 #[.pointer (some ⟨g.d, 0, none⟩), .string (kNm j)] W (OpTo g' 0 (kSt c (j + 1)) W)) := Lib.hid (fun j hj W g' hW hg => by
    obtain ⟨e1, e2, k⟩ := hcr j hj
    have := create_any g' (kSt c j) (kNm j) W hW (by match j, hj with | 0, _ => decide | 1, _ => decide) k.good.fuse (by have := k.good.len; omega)
    rw [e1, e2, hg] at this
    exact this)
  have HWR : Hid (∀ (W : World) (g' : Gh), DiskAt W g' (kSt c 2) → g'.d = g.d → Calls Tryz.prog 76 #[.pointer (some ⟨g.d, 0, none⟩), .string xS, .int .i64 0, .string zeros24] W (OpTo g' 0 (kEnd c) W)) := Lib.hid (fun W g' hW hg => by
    obtain ⟨f, e1, e2, e3⟩ := hf2
    have := write_any g' (kSt c 2) xS ((0 : Nat) : Int) zeros24 W hW (by decide) hk2.good.fuse (by decide) hk2.good.cap hk2.good.size (by have := hk2.good.turn; omega) (fun f' hf' => by
      rw [e1] at hf'; cases hf'
      rw [e2, e3]
      exact ⟨by decide, by decide⟩)
    rw [hwe, hg] at this
    exact this)
  have HRP : Hid (∀ W, Calls Tryz.prog 109 #[.string ⟨#[0]⟩, .int .i64 24] W fun e w' => e = .returned (.string zeros24) ∧ Below W.heap.size W w') := Lib.hid (fun W => by
    have := Tryz.strings_Repeat ⟨#[0]⟩ 24 W (by decide) (by decide)
    have e : (⟨(Lib.repeatL (⟨#[0]⟩ : ByteArray).data.toList 24).toArray⟩ : ByteArray) = zeros24 := by decide
    rw [e] at this
    exact this)
  have HKEEP : Hid (∀ (W : World) (g' : Gh), Gh.To w g g' W → W.cell? ⟨xb, 0, none⟩ = some (.pointer (some ⟨g.d, 0, none⟩))) := Lib.hid (fun W g' t => by
    have := t.chg.heap hx hout
    simp [World.cell?, this])
  have HD := Lib.hid hd
  have i0 : ∀ w, (Instr.index 167 (.agg #[.string ⟨#[120, 45, 108, 105, 110, 107, 115]⟩, .string ⟨#[120, 45, 115, 108, 111, 116, 115]⟩]) (.int .i64 0)).run Tryz.prog w = .ok (.string xL) w := fun _ => by kernel_rfl
  have i1 : ∀ w, (Instr.index 167 (.agg #[.string ⟨#[120, 45, 108, 105, 110, 107, 115]⟩, .string ⟨#[120, 45, 115, 108, 111, 116, 115]⟩]) (.int .i64 1)).run Tryz.prog w = .ok (.string xS) w := fun _ => by kernel_rfl
  clear hcr hk2 hwe hke hf2 hd hx hout h0 h1
  go_enter Tryz.func57, Tryz.ntmps57
  go_wp2_with fail
  refine HRF.out.mono ?_
  rintro e w1 ⟨rfl, y, rfl⟩
  go_wp2_with fail
  go_loopw [29] (fun i wr => ∃ j : Nat, j ≤ 2 ∧ i = .int .i64 (j : Int) ∧ ∃ g', Hid (DiskAt wr g' (kSt c j)) ∧ Hid (Gh.To w g g' wr)) (fun i _ => 2 - (intOf i).toNat)
  case atStart => exact ⟨0, by decide, rfl, g, Lib.hid (HD.out.new ((Chg.refl _ _).drewN y)), Lib.hid (Gh.To.new g ((Chg.refl _ _).drewN y))⟩
  case round =>
    obtain ⟨j, hj, rfl, g', HDr, HTr⟩ := hrel
    have k0 := HKEEP.out wr g' HTr.out
    rcases (show j = 0 ∨ j = 1 ∨ j = 2 by omega) with rfl | rfl | rfl
    · have HC := Lib.hid (HCR.out 0 (by decide) wr g' HDr.out HTr.out.d)
      go_wp2_with fail
      refine HC.out.mono ?_
      rintro e w3 ⟨rfl, g3, hd3, ht3⟩
      have HR : Hid (DiskAt w3 g3 (kSt c 1) ∧ Gh.To w g g3 w3) := Lib.hid ⟨hd3, HTr.out.trans ht3⟩
      clear hd3 ht3
      go_wp2_with fail
      exact ⟨⟨1, by decide, rfl, g3, Lib.hid HR.out.1, Lib.hid HR.out.2⟩, by decide⟩
    · have HC := Lib.hid (HCR.out 1 (by decide) wr g' HDr.out HTr.out.d)
      go_wp2_with fail
      refine HC.out.mono ?_
      rintro e w3 ⟨rfl, g3, hd3, ht3⟩
      have HR : Hid (DiskAt w3 g3 (kSt c 2) ∧ Gh.To w g g3 w3) := Lib.hid ⟨hd3, HTr.out.trans ht3⟩
      clear hd3 ht3
      go_wp2_with fail
      exact ⟨⟨2, by decide, rfl, g3, Lib.hid HR.out.1, Lib.hid HR.out.2⟩, by decide⟩
    · go_upto_region 15 with fail
      have HWR' : Hid (∀ W, Below wr.heap.size wr W → Calls Tryz.prog 76 #[.pointer (some ⟨g.d, 0, none⟩), .string xS, .int .i64 0, .string zeros24] W (KBegTo c g w)) := Lib.hid (fun W hW => by
        refine (HWR.out W g' (HDr.out.new (Chg.of_below hW)) HTr.out.d).mono ?_
        rintro e w5 ⟨rfl, g5, hd5, ht5⟩
        exact ⟨rfl, g5, hd5, (HTr.out.trans (Gh.To.new g' (Chg.of_below hW))).trans ht5⟩)
      go_region_held3 (fun w' => w'.cell? ⟨xb, 0, none⟩ = some (.pointer (some ⟨g.d, 0, none⟩)))
        (first | exact k0 | go_keep)
        (first
          | (go_at_call 109
             refine (HRP.out _).mono ?_
             rintro e w2 ⟨rfl, hb2⟩
             have k0 := keep4 hb2 k0
             have HB2 := Lib.hid hb2
             clear hb2)
          | (go_at_call 76
             refine (HWR'.out _ ?_).mono ?_
             · repeat (first | exact Below.refl _ _ | with_reducible refine below_drewN ?_ _ | with_reducible refine Below.drew ?_ | refine below_on HB2.out ?_ (Nat.le_refl _))
             rintro e w5 ⟨rfl, g5, hd5, ht5⟩
             have k0 := HKEEP.out w5 g5 ht5
             have HR : Hid (DiskAt w5 g5 (kEnd c) ∧ Gh.To w g g5 w5) := Lib.hid ⟨hd5, ht5⟩
             clear hd5 ht5))
      all_goals
        go_wp2_with fail
        go_ret
        refine ⟨rfl, g5, ?_, ?_⟩
        · repeat (first | exact HR.out.1 | with_reducible refine DiskAt.drew ?_)
        · first | exact HR.out.2 | exact HR.out.2.trans (Gh.To.new g5 (Chg.refl _ _).drew) | exact HR.out.2.trans (Gh.To.new g5 ((Chg.refl _ _).drewN _))
def KNewTo (w0 : World) (g : Gh) (c : Int) (w : World) (e : Ending) (w' : World) : Prop := ∃ xb g', e = .returned (.tuple #[.pointer (some ⟨xb, 0, none⟩), .int .i64 0]) ∧ w.heap.size ≤ xb ∧ KxI w0 w' xb g' (kEnd c) 3 [] ∧ Gh.To w g g' w'
set_option maxHeartbeats 2000000 in
set_option maxRecDepth 100000 in
theorem knew_any {w0 w : World} {d : Nat} {g : Gh} (c : Int) (h0 : 24 ≤ c) (h1 : c ≤ 16777216) (hd : DiskG w0 w d g (newSt c)) :
    Calls Tryz.prog 26 #[.pointer (some ⟨d, 0, none⟩)] w (KNewTo w0 g c w) := by
  obtain ⟨_, _, _, hke, hl, hs, hz, _, _⟩ := kSt_facts c h0 h1
  obtain ⟨W1, hW1⟩ : ∃ W, W = w.alloc (.cells #[.pointer (some ⟨d, 0, none⟩), .int .i64 0] 103) := ⟨_, rfl⟩
  have hb1 : Below w.heap.size w W1 := hW1 ▸ (Below.refl _ _).alloc (Nat.le_refl _) _
  have hsz : W1.heap.size = w.heap.size + 1 := by rw [hW1, World.size_alloc]
  have hx1 : W1.heap[w.heap.size]? = some (.cells #[.pointer (some ⟨d, 0, none⟩), .int .i64 0] 103 (0, 0)) := by rw [hW1]; exact heap_alloc_new w _
  have k0 : W1.cell? ⟨w.heap.size, 0, none⟩ = some (.pointer (some ⟨d, 0, none⟩)) := by simp [World.cell?, hx1]
  have hd1 := hd.new (Chg.of_below hb1)
  have hout : w.heap.size ∉ g.fp := fun hx => Nat.lt_irrefl _ (hd.disk.lt _ hx)
  have hL := list_strs g (newSt c) kH W1 hd1.disk (by show 0 ≤ _; omega)
  have hnil : namesS kH (newSt c) = [] := List.eq_nil_of_length_eq_zero (Nat.le_zero.1 (namesS_length kH (newSt c)))
  rw [hnil, hd.d] at hL
  have HL := Lib.hid hL
  have HB : Hid (∀ (W : World) (a : Option Addr) (cap : Nat), Below W1.heap.size W1 W → Calls Tryz.prog 57 #[.pointer (some ⟨w.heap.size, 0, none⟩), .slice a 0 cap] W fun e w' => e = .returned (.int .i64 0) ∧ ∃ g', KxI w0 w' w.heap.size g' (kEnd c) 3 [] ∧ Gh.To w g g' w') := Lib.hid (fun W a cap hW => by
    have hcW : Chg (fun _ => False) W1 W := Chg.of_below hW
    have hdW := hd1.new hcW
    refine (kbegin_any c h0 h1 w.heap.size g W hdW.disk (by rw [hd.d]; exact hcW.heap hx1 (fun x => x)) hout a cap).mono ?_
    rintro e w' ⟨rfl, g', hd', t⟩
    have hsW := hcW.size
    have hst := t.chg.size
    refine ⟨rfl, g', ⟨⟨hd', rfl, hdW.chg.trans t.chg (fun i hi hx => by have := hd.low i hx; omega), fun q hq => ?_⟩, hke, ?_, hd.chg.size, fun hx => ?_, hl, hs, fun k hk => by cases hk⟩, (Gh.To.new g ((Chg.of_below hb1 : Chg (fun _ => False) w W1).trans hcW (fun _ _ x => x))).trans t⟩
    · rcases t.fp q hq with a1 | a1
      · exact hd.low q a1
      · have := hd.chg.size; omega
    · rw [t.d, hd.d]
      exact t.chg.heap (hcW.heap hx1 (fun x => x)) hout
    · rcases t.fp _ hx with a1 | a1
      · exact hout a1
      · omega)
  have HW1 := Lib.hid hW1
  clear hke hl hs hz hb1 hx1 hd1 hout hL hnil hd hW1
  go_enter Tryz.func26, Tryz.ntmps26
  go_upto_region 4 with fail
  rw [← HW1.out]
  go_wp2_with fail
  refine HL.out.mono ?_
  rintro e w2 ⟨v, rfl, hs2, hb2⟩
  obtain ⟨a, cap, rfl⟩ := hs2.form
  have HB2 := Lib.hid (HB.out w2 a cap hb2)
  clear hs2 hb2
  go_wp2_with fail
  refine HB2.out.mono ?_
  rintro e w3 ⟨rfl, g3, h3, t3⟩
  have H3 := Lib.hid h3
  have T3 := Lib.hid t3
  clear h3 t3
  go_wp2_with fail
  go_ret2
  exact ⟨_, g3, rfl, Nat.le_refl _, H3.out, T3.out⟩
def kaddE (t k : ByteArray) (x y : Int) : Int := if topicB t = true ∧ keyB k = true then (if (0 ≤ x ∧ x ≤ 1099511627776) ∧ 0 ≤ y ∧ y ≤ 1099511627776 then 0 else 1) else 11
def kaddR (R : List KE) (t k : ByteArray) (x y : Int) : List KE := if kaddE t k x y = 0 then ⟨numK t k, x.toNat, y.toNat⟩ :: R else R
def KPutTo (w0 w : World) (xb : Nat) (g : Gh) (st : St) (n : Nat) (R : List KE) (err : Int) (e : Ending) (w' : World) : Prop :=
  e = .returned (.int .i64 err) ∧ ∃ g' st', KxI w0 w' xb g' st' (n + 2) R ∧ XTo xb w g g' w' ∧ st'.cap = st.cap ∧ (st'.size = if err = 0 then st.size + 20 else st.size) ∧ Others kH st st' ∧ st'.fs.map (·.1) = st.fs.map (·.1)
theorem Calm_more {n n' : Nat} {st : St} (h : Calm n st) (hn : n ≤ n') : Calm n' st := ⟨h.good.more hn, h.lit, h.down⟩
theorem KxI.more {w0 w : World} {xb : Nat} {g : Gh} {st : St} {n n' : Nat} {R : List KE} (h : KxI w0 w xb g st n R) (hn : n ≤ n') : KxI w0 w xb g st n' R := ⟨h.disk, Calm_more h.calm hn, h.cell, h.low, h.out, h.lnk, h.slt, h.ok⟩
set_option maxHeartbeats 4000000 in
set_option maxRecDepth 100000 in
theorem kput_any {w0 w : World} {xb : Nat} {g : Gh} {st : St} {n : Nat} {R : List KE} (h : KxI w0 w xb g st n R) (hn : n ≤ 1000000) (hl : R.length ≤ 100000) (hcap : st.size + 20 ≤ st.cap) (t k : ByteArray) (ht : t.size ≤ maxLen) (hk : k.size ≤ maxLen) (x y : Int) :
    Calls Tryz.prog 113 #[.pointer (some ⟨xb, 0, none⟩), .string t, .string k, .int .i64 x, .int .i64 y] w (KPutTo w0 w xb g st n (kaddR R t k x y) (kaddE t k x y)) := by
  have HT := fun W => Lib.hid (topic_any t W ht)
  have HKK := fun W => Lib.hid (key_any k W hk)
  have hsame : ∀ (er : Int), er ≠ 0 → ∀ w', Chg (fun _ => False) w w' → ∃ g' st', KxI w0 w' xb g' st' (n + 2) R ∧ XTo xb w g g' w' ∧ st'.cap = st.cap ∧ (st'.size = if er = 0 then st.size + 20 else st.size) ∧ Others kH st st' ∧ st'.fs.map (·.1) = st.fs.map (·.1) := fun er her w' hc => ⟨g, st, (h.new hc).more (by omega), XTo.new g hc, rfl, (if_neg her).symm, Others.refl _ _, rfl⟩
  have HS := Lib.hid hsame
  have hAE : kaddE t k x y = if topicB t = true ∧ keyB k = true then (if (0 ≤ x ∧ x ≤ 1099511627776) ∧ 0 ≤ y ∧ y ≤ 1099511627776 then 0 else 1) else 11 := rfl
  have hAR : kaddR R t k x y = if kaddE t k x y = 0 then ⟨numK t k, x.toNat, y.toNat⟩ :: R else R := rfl
  cases ht0 : topicB t with
  | false =>
    rw [ht0] at HT
    rw [if_neg (by rw [ht0]; simp)] at hAE
    rw [hAE, if_neg (by decide)] at hAR
    rw [hAE, hAR]
    clear h hAE hAR hsame
    go_enter Tryz.func113, Tryz.ntmps113
    go_wp2_with fail
    refine (HT _).out.mono ?_
    rintro e w2 ⟨rfl, hb2⟩
    go_wp2_with fail
    go_ret
    exact ⟨rfl, HS.out _ (by decide) _ (Chg.of_below hb2)⟩
  | true =>
    rw [ht0] at HT
    cases hk0 : keyB k with
    | false =>
      rw [hk0] at HKK
      rw [if_neg (by rw [hk0]; simp)] at hAE
      rw [hAE, if_neg (by decide)] at hAR
      rw [hAE, hAR]
      clear h hAE hAR hsame
      go_enter Tryz.func113, Tryz.ntmps113
      go_wp2_with fail
      refine (HT _).out.mono ?_
      rintro e w2 ⟨rfl, hb2⟩
      have HB2 := Lib.hid hb2
      clear hb2
      go_wp2_with fail
      refine (HKK _).out.mono ?_
      rintro e w3 ⟨rfl, hb3⟩
      have HB3 := Lib.hid (below_on hb3 HB2.out (Nat.le_refl _))
      clear hb3
      go_wp2_with fail
      go_ret
      exact ⟨rfl, HS.out _ (by decide) _ (Chg.of_below HB3.out)⟩
    | true =>
      rw [hk0] at HKK
      rw [if_pos ⟨ht0, hk0⟩] at hAE
      have HRX := fun W => Lib.hid (kright_any x W)
      have HRY := fun W => Lib.hid (kright_any y W)
      by_cases hx : 0 ≤ x ∧ x ≤ 1099511627776
      · rw [decide_eq_true hx] at HRX
        by_cases hy : 0 ≤ y ∧ y ≤ 1099511627776
        · rw [decide_eq_true hy] at HRY
          rw [if_pos ⟨hx, hy⟩] at hAE
          rw [hAE, if_pos rfl] at hAR
          rw [hAE, hAR]
          clear hAE hAR
          have HN := fun W => Lib.hid (number_any t k W ht hk)
          have hnl := numK_lt t k
          obtain ⟨h0, hh0⟩ : ∃ h0, h0 = numK t k := ⟨_, rfl⟩
          rw [← hh0] at HN hnl ⊢
          have hmod : ((h0 : Int).tmod 8) = ((h0 % 8 : Nat) : Int) := by rw [Int.tmod_eq_emod_of_nonneg (by omega)]; omega
          have hlast : ∀ W, Below w.heap.size w W → Calls Tryz.prog 94 #[.pointer (some ⟨xb, 0, none⟩), .int .i64 ((h0 % 8 : Nat) : Int)] W fun e w' => e = .returned (.tuple #[.int .i64 (lastR R (h0 % 8) : Nat), .int .i64 0]) ∧ Below W.heap.size W w' := fun W hW => klast_any (h.new (Chg.of_below hW)) (by omega) (h0 % 8) (Nat.mod_lt _ (by decide))
          have hadd : ∀ W, Below w.heap.size w W → Calls Tryz.prog 159 #[.pointer (some ⟨xb, 0, none⟩), .agg #[.int .i64 (h0 : Int), .int .i64 x, .int .i64 y, .int .i64 (lastR R (h0 % 8) : Nat)]] W (KPutTo w0 w xb g st n (⟨h0, x.toNat, y.toNat⟩ :: R) 0) := fun W hW => by
            have := kadd_any (h.new (Chg.of_below hW)) hn hl ⟨h0, x.toNat, y.toNat⟩ ⟨hnl, by show x.toNat ≤ _; omega, by show y.toNat ≤ _; omega⟩ hcap
            unfold linkV at this
            dsimp only at this
            rw [show ((x.toNat : Nat) : Int) = x by omega, show ((y.toNat : Nat) : Int) = y by omega] at this
            refine this.mono ?_
            rintro e w' ⟨rfl, g', st', a1, a2, a3, a4, a5⟩
            exact ⟨rfl, g', st', a1, (XTo.new g (Chg.of_below hW)).trans a2, a3, a4, a5⟩
          obtain ⟨la, hla⟩ : ∃ la, la = lastR R (h0 % 8) := ⟨_, rfl⟩
          rw [← hla] at hlast hadd
          obtain ⟨bi, hbi⟩ : ∃ bi : Int, bi = ((h0 % 8 : Nat) : Int) := ⟨_, rfl⟩
          rw [← hbi] at hlast hmod
          have HLA := Lib.hid hlast
          have HAD := Lib.hid hadd
          clear h hlast hadd hla hbi hh0 hsame ht0 hk0
          go_enter Tryz.func113, Tryz.ntmps113
          go_wp2_with fail
          refine (HT _).out.mono ?_
          rintro e w2 ⟨rfl, hb2⟩
          have HB2 := Lib.hid hb2
          clear hb2
          go_wp2_with fail
          refine (HKK _).out.mono ?_
          rintro e w3 ⟨rfl, hb3⟩
          have HB3 := Lib.hid (below_on hb3 HB2.out (Nat.le_refl _))
          clear hb3
          go_wp2_with fail
          refine (HRX _).out.mono ?_
          rintro e w4 ⟨rfl, rfl⟩
          go_wp2_with fail
          refine (HRY _).out.mono ?_
          rintro e w4 ⟨rfl, rfl⟩
          go_wp2_with fail
          refine (HN _).out.mono ?_
          rintro e w4 ⟨rfl, hb4⟩
          have HB4 := Lib.hid (below_on hb4 HB3.out (Nat.le_refl _))
          clear hb4
          go_wp2_with fail
          refine (HLA.out _ HB4.out).mono ?_
          rintro e w5 ⟨rfl, hb5⟩
          have HB5 := Lib.hid (below_on hb5 HB4.out (Nat.le_refl _))
          clear hb5
          go_wp2_with fail
          refine (HAD.out _ HB5.out).mono ?_
          rintro e w6 ⟨rfl, h6⟩
          have H6 := Lib.hid h6
          clear h6
          go_wp2_with fail
          go_ret
          exact ⟨rfl, H6.out⟩
        · rw [decide_eq_false hy] at HRY
          rw [if_neg (fun hx' => hy hx'.2)] at hAE
          rw [hAE, if_neg (by decide)] at hAR
          rw [hAE, hAR]
          clear h hAE hAR hsame
          go_enter Tryz.func113, Tryz.ntmps113
          go_wp2_with fail
          refine (HT _).out.mono ?_
          rintro e w2 ⟨rfl, hb2⟩
          have HB2 := Lib.hid hb2
          clear hb2
          go_wp2_with fail
          refine (HKK _).out.mono ?_
          rintro e w3 ⟨rfl, hb3⟩
          have HB3 := Lib.hid (below_on hb3 HB2.out (Nat.le_refl _))
          clear hb3
          go_wp2_with fail
          refine (HRX _).out.mono ?_
          rintro e w4 ⟨rfl, rfl⟩
          go_wp2_with fail
          refine (HRY _).out.mono ?_
          rintro e w4 ⟨rfl, rfl⟩
          go_wp2_with fail
          go_ret
          exact ⟨rfl, HS.out _ (by decide) _ (Chg.of_below HB3.out)⟩
      · rw [decide_eq_false hx] at HRX
        rw [if_neg (fun hx' => hx hx'.1)] at hAE
        rw [hAE, if_neg (by decide)] at hAR
        rw [hAE, hAR]
        clear h hAE hAR hsame
        go_enter Tryz.func113, Tryz.ntmps113
        go_wp2_with fail
        refine (HT _).out.mono ?_
        rintro e w2 ⟨rfl, hb2⟩
        have HB2 := Lib.hid hb2
        clear hb2
        go_wp2_with fail
        refine (HKK _).out.mono ?_
        rintro e w3 ⟨rfl, hb3⟩
        have HB3 := Lib.hid (below_on hb3 HB2.out (Nat.le_refl _))
        clear hb3
        go_wp2_with fail
        refine (HRX _).out.mono ?_
        rintro e w4 ⟨rfl, rfl⟩
        go_wp2_with fail
        go_ret
        exact ⟨rfl, HS.out _ (by decide) _ (Chg.of_below HB3.out)⟩
end Go.Proofs.YtdnhgodfmjapmaaGreatDoor
