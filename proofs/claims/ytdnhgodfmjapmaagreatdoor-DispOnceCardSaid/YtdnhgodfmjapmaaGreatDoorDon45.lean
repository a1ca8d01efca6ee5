/- A part. -/
import Derived.Test.YtdnhgodfmjapmaaGreatDoorDon34
import Derived.Test.YtdnhgodfmjapmaaGreatDoorDon43
set_option linter.unusedVariables false
set_option linter.unusedSimpArgs false
namespace Go.Proofs.YtdnhgodfmjapmaaGreatDoor
open Go.RowKit Go.Deep
def xL : ByteArray := ⟨#[120, 45, 108, 105, 110, 107, 115]⟩
def xS : ByteArray := ⟨#[120, 45, 115, 108, 111, 116, 115]⟩
theorem xLS : xL ≠ xS := by decide
structure KxI (w0 w : World) (xb : Nat) (g : Gh) (st : St) (n : Nat) (R : List KE) : Prop where
  disk : DiskG w0 w g.d g st
  calm : Calm n st
  cell : w.heap[xb]? = some (.cells #[.pointer (some ⟨g.d, 0, none⟩), .int .i64 (R.length : Nat)] 103 (0, 0))
  low : w0.heap.size ≤ xb
  out : xb ∉ g.fp
  lnk : ∃ f, st.find xL = some f ∧ f.bytes = linksB R
  slt : ∃ f, st.find xS = some f ∧ f.bytes = slotsB R
  ok : ∀ k ∈ R, k.ok
theorem KxI.lt {w0 w : World} {xb : Nat} {g : Gh} {st : St} {n : Nat} {R : List KE} (h : KxI w0 w xb g st n R) : xb < w.heap.size := (Array.getElem?_eq_some_iff.1 h.cell).1
theorem KxI.chg {w0 w w' : World} {S : Nat → Prop} {xb : Nat} {g : Gh} {st : St} {n : Nat} {R : List KE} (h : KxI w0 w xb g st n R) (hc : Chg S w w') (hx : ¬ S xb) (hS : ∀ q ∈ g.fp, ¬ S q) (h0 : ∀ q, q < w0.heap.size → ¬ S q) : KxI w0 w' xb g st n R :=
  ⟨⟨h.disk.disk.chg hc hS, rfl, h.disk.chg.trans hc (fun i hi hs => h0 i hi hs), h.disk.low⟩, h.calm, hc.heap h.cell hx, h.low, h.out, h.lnk, h.slt, h.ok⟩
theorem KxI.new {w0 w w' : World} {xb : Nat} {g : Gh} {st : St} {n : Nat} {R : List KE} (h : KxI w0 w xb g st n R) (hc : Chg (fun _ => False) w w') : KxI w0 w' xb g st n R := h.chg hc (fun x => x) (fun _ _ x => x) (fun _ _ x => x)
theorem KxI.cells {w0 w : World} {xb : Nat} {g : Gh} {st : St} {n : Nat} {R : List KE} (h : KxI w0 w xb g st n R) : w.cell? ⟨xb, 0, none⟩ = some (.pointer (some ⟨g.d, 0, none⟩)) ∧ w.cell? ⟨xb, 1, none⟩ = some (.int .i64 (R.length : Nat)) ∧ ∀ i, w.frozen? ⟨xb, i, none⟩ = false := by
  have h := h.cell
  refine ⟨?_, ?_, fun i => ?_⟩ <;> simp [World.cell?, World.frozen?, h]
theorem kright_any (x : Int) (w : World) : Calls Tryz.prog 158 #[.int .i64 x] w fun e w' => e = .returned (.bool (decide (0 ≤ x ∧ x ≤ 1099511627776))) ∧ w = w' := by
  by_cases h0 : 0 ≤ x
  · have e : decide (0 ≤ x ∧ x ≤ 1099511627776) = decide (x ≤ 1099511627776) := by simp [h0]
    rw [e]
    have g0 : decide (0 ≤ x) = true := decide_eq_true h0
    go_enter Tryz.func158, Tryz.ntmps158
    go_wp2_with fail
    go_ret
    all_goals first | exact ⟨rfl, rfl⟩ | (simp_all; done) | skip
  · have e : decide (0 ≤ x ∧ x ≤ 1099511627776) = false := by simp [h0]
    rw [e]
    go_enter Tryz.func158, Tryz.ntmps158
    go_wp2_with fail
    go_ret
    all_goals first | exact ⟨rfl, rfl⟩ | (simp_all; done) | skip
theorem kplace_any (m : Nat) (w : World) (h : m ≤ 1000000) : Calls Tryz.prog 137 #[.int .i64 ((m + 1 : Nat) : Int)] w fun e w' => e = .returned (.int .i64 ((20 * m : Nat) : Int)) ∧ w = w' := by
  have e1 : IntKind.i64.wrap (((m + 1 : Nat) : Int) - 1) = (m : Int) := by rw [IntWalk.i64_in _ (by omega)]; omega
  have e2 : IntKind.i64.wrap ((m : Int) * 20) = ((20 * m : Nat) : Int) := by rw [IntWalk.i64_in _ (by omega)]; omega
  go_enter Tryz.func137, Tryz.ntmps137
  go_wp2_with fail
  go_ret
  all_goals first | exact ⟨rfl, rfl⟩ | (simp_all; done) | (refine ⟨?_, rfl⟩; rw [show (((m + 1 : Nat) : Int) - 1) = (m : Int) by omega]; congr 2; omega)
theorem strs_three (w : World) (s t u : ByteArray) : Strs (w.alloc (.cells #[.string s, .string t, .string u] 9)) 0 (.slice (some ⟨w.heap.size, 0, none⟩) 3 3) [s, t, u] :=
  ⟨some ⟨w.heap.size, 0, none⟩, 3, rfl, .inr ⟨_, _, rfl, Nat.zero_le _, fun i hi => by
    match i, hi with
    | 0, _ => simp
    | 1, _ => simp
    | 2, _ => simp⟩⟩
def numK (t k : ByteArray) : Nat := hashF 0 (t.data.toList ++ 35 :: k.data.toList)
theorem numK_lt (t k : ByteArray) : numK t k < 4294967296 := hashF_lt (by decide) _
theorem number_any (t k : ByteArray) (w : World) (ht : t.size ≤ maxLen) (hk : k.size ≤ maxLen) : Calls Tryz.prog 47 #[.string t, .string k] w fun e w' => e = .returned (.int .i64 (numK t k : Nat)) ∧ Below w.heap.size w w' := by
  have e : numK t k = hashF 0 (flatB [t, ⟨#[35]⟩, k]) := by simp [numK, flatB]
  rw [e]
  have H := Lib.hid (hash_any _ _ _ (strs_three w t ⟨#[35]⟩ k) (by unfold maxLen; show 3 ≤ _; omega) (fun x hx => by
    simp only [List.mem_cons, List.not_mem_nil, or_false] at hx
    rcases hx with rfl | rfl | rfl
    · exact ht
    · show 1 ≤ maxLen; unfold maxLen; omega
    · exact hk))
  go_enter Tryz.func47, Tryz.ntmps47
  go_wp2_with fail
  refine H.out.mono ?_
  rintro e w2 ⟨rfl, rfl⟩
  go_wp2_with fail
  go_ret
  exact ⟨rfl, (Below.refl _ _).alloc (Nat.le_refl _) _⟩
set_option maxHeartbeats 1000000 in
theorem klast_any {w0 w : World} {xb : Nat} {g : Gh} {st : St} {n : Nat} {R : List KE} (h : KxI w0 w xb g st n R) (hl : R.length ≤ 1000000) (b : Nat) (hb : b < 8) :
    Calls Tryz.prog 94 #[.pointer (some ⟨xb, 0, none⟩), .int .i64 (b : Nat)] w fun e w' => e = .returned (.tuple #[.int .i64 (lastR R b : Nat), .int .i64 0]) ∧ Below w.heap.size w w' := by
  obtain ⟨c0, _, _⟩ := h.cells
  obtain ⟨f, hf, hfb⟩ := h.slt
  have hR := dread_ok g st xS f (3 * b) 3 w h.disk.disk (by decide) h.calm.down hf (by omega) (by rw [hfb, slotsB_length]; omega) (by rw [hfb, slotsB_length]; omega)
  rw [hfb, slots_at R hb] at hR
  have e1 : IntKind.i64.wrap (3 * (b : Int)) = ((3 * b : Nat) : Int) := by rw [IntWalk.i64_in _ (by omega)]; omega
  have hle := lastR_le R b
  obtain ⟨v, hv⟩ : ∃ v, v = lastR R b := ⟨_, rfl⟩
  rw [← hv] at hR hle ⊢
  have hN := Oc.numS_read 3 v (by decide) (by decide) (by omega) []
  rw [List.append_nil] at hN
  obtain ⟨s, hs⟩ : ∃ s : ByteArray, s = ⟨(Oc.numB 3 v).toArray⟩ := ⟨_, rfl⟩
  rw [← hs] at hR hN
  have HR := Lib.hid hR
  have HN := Lib.hid hN
  clear hR hN hs hf hfb h hv hle
  go_enter Tryz.func94, Tryz.ntmps94
  go_wp2_with fail
  refine HR.out.mono ?_
  rintro e w2 ⟨rfl, hb2⟩
  have HB2 := Lib.hid hb2
  clear hb2
  go_wp2_with fail
  refine (Oc.new_any s w2).mono ?_
  rintro e w3 ⟨rfl, rfl⟩
  have hrd : Oc.Rd (w2.alloc (.cells #[.string s, .int .i64 0] 253)) w2.heap.size s 0 := heap_alloc_new w2 _
  have HC := Lib.hid (Oc.num_any _ s 3 _ hrd HN.out)
  have HB3 := Lib.hid (HB2.out.alloc HB2.out.size (.cells #[.string s, .int .i64 0] 253))
  clear hrd
  go_wp2_with fail
  refine HC.out.mono ?_
  rintro e w4 ⟨rfl, _, hg⟩
  have hB4 := below_grown' HB3.out hg (Nat.le_refl _) HB2.out.size
  go_wp2_with fail
  go_ret2
  exact ⟨rfl, hB4⟩
def linkV (k : KE) (a : Nat) : Value := .agg #[.int .i64 (k.h : Nat), .int .i64 (k.at_ : Nat), .int .i64 (k.born : Nat), .int .i64 (a : Nat)]
theorem calm_writeA {n : Nat} {st : St} (h : Calm n st) {nm : ByteArray} {f : FileM} {a : Nat} {s : ByteArray} (hf : st.find nm = some f) (ha : a ≤ f.bytes.length) (hm : more f a s.size ≤ st.cap - st.size) (h0 : s.size ≠ 0) :
    writeE st nm a s = 0 ∧ writeS st nm a s = { st with size := st.size + more f a s.size, turn := st.turn + 1, fs := setF st.fs nm (addF f ⟨(st.turn : Int) + 1, a, s⟩) } ∧ Calm (n + 1) (writeS st nm a s) := by
  have e2 : writeS st nm a s = { st with size := st.size + more f a s.size, turn := st.turn + 1, fs := setF st.fs nm (addF f ⟨(st.turn : Int) + 1, a, s⟩) } := by
    unfold writeS
    rw [if_neg (by rw [h.down]; simp), hf]
    simp only [Int.toNat_natCast]
    rw [if_neg (by omega), if_neg (by omega), if_pos h.burnE, if_neg h0, h.burnS]
  refine ⟨?_, e2, h.good.write nm a s, by rw [e2]; exact h.lit, by rw [e2]; exact h.down⟩
  unfold writeE
  rw [if_neg (by rw [h.down]; simp), hf]
  simp only [Int.toNat_natCast]
  rw [if_neg (by omega), if_neg (by omega), h.burnE]
theorem findS_other {st : St} {a b : ByteArray} {f : FileM} {sz tn : Nat} (hab : a ≠ b) : St.find { st with size := sz, turn := tn, fs := setF st.fs b f } a = st.find a := by
  unfold St.find
  have : (setF st.fs b f).find? (fun p => decide (p.1 = a)) = st.fs.find? (fun p => decide (p.1 = a)) := by
    unfold setF
    induction st.fs with
    | nil => rfl
    | cons p l ih =>
      rw [List.map_cons, List.find?_cons, List.find?_cons]
      by_cases hb : p.1 = b
      · rw [if_pos hb]
        have h1 : decide (b = a) = false := decide_eq_false (fun hx => hab hx.symm)
        have h2 : decide (p.1 = a) = false := decide_eq_false (fun hx => hab (hx ▸ hb))
        simp only [h1, h2]
        exact ih
      · rw [if_neg hb]
        cases decide (p.1 = a)
        · exact ih
        · rfl
  show ((setF st.fs b f).find? _).map _ = _
  rw [this]
theorem findS_same {st : St} {a : ByteArray} {f f' : FileM} {sz tn : Nat} (h : st.find a = some f) : St.find { st with size := sz, turn := tn, fs := setF st.fs a f' } a = some f' := by
  unfold St.find at h ⊢
  show ((setF st.fs a f').find? _).map _ = _
  unfold setF
  generalize st.fs = l at h
  induction l with
  | nil => cases h
  | cons p l ih =>
    rw [List.map_cons, List.find?_cons]
    rw [List.find?_cons] at h
    by_cases hb : p.1 = a
    · rw [if_pos hb]
      simp
    · rw [if_neg hb]
      rw [decide_eq_false hb] at h ⊢
      exact ih h
structure XTo (xb : Nat) (w : World) (g g' : Gh) (w' : World) : Prop where
  chg : Chg (fun q => q = xb ∨ q ∈ g.fp) w w'
  fp : ∀ q ∈ g'.fp, q ∈ g.fp ∨ w.heap.size ≤ q
  d : g'.d = g.d
theorem XTo.refl (xb : Nat) (w : World) (g : Gh) : XTo xb w g g w := ⟨Chg.refl _ _, fun _ h => .inl h, rfl⟩
theorem XTo.new {xb : Nat} {w w' : World} (g : Gh) (hc : Chg (fun _ => False) w w') : XTo xb w g g w' := ⟨hc.wide (fun _ _ x => x.elim), fun _ h => .inl h, rfl⟩
theorem XTo.trans {xb : Nat} {w w1 w2 : World} {g g1 g2 : Gh} (h : XTo xb w g g1 w1) (k : XTo xb w1 g1 g2 w2) : XTo xb w g g2 w2 := by
  have hs := h.chg.size
  refine ⟨h.chg.trans k.chg (fun i hi hx => ?_), fun i hi => ?_, k.d.trans h.d⟩
  · rcases hx with hx | hx
    · exact .inl hx
    · rcases h.fp i hx with h1 | h1
      · exact .inr h1
      · omega
  · rcases k.fp i hi with h1 | h1
    · exact h.fp i h1
    · exact .inr (by omega)
def kH : ByteArray := ⟨#[120, 45]⟩
theorem kH_xL : Lib.hasPrefix xL.data.toList kH.data.toList = true := by decide
theorem kH_xS : Lib.hasPrefix xS.data.toList kH.data.toList = true := by decide
theorem others_setF {st : St} {b : ByteArray} {f : FileM} {sz tn : Nat} (hb : Lib.hasPrefix b.data.toList kH.data.toList = true) : Others kH st { st with size := sz, turn := tn, fs := setF st.fs b f } := fun nm hn => findS_other (fun hx => by rw [hx, hb] at hn; cases hn)
def KAddTo (w0 w : World) (xb : Nat) (g : Gh) (st : St) (n : Nat) (R : List KE) (e : Ending) (w' : World) : Prop :=
  e = .returned (.int .i64 0) ∧ ∃ g' st', KxI w0 w' xb g' st' (n + 2) R ∧ XTo xb w g g' w' ∧ st'.cap = st.cap ∧ st'.size = st.size + 20 ∧ Others kH st st' ∧ st'.fs.map (·.1) = st.fs.map (·.1)
set_option maxHeartbeats 4000000 in
set_option maxRecDepth 100000 in
theorem kadd_any {w0 w : World} {xb : Nat} {g : Gh} {st : St} {n : Nat} {R : List KE} (h : KxI w0 w xb g st n R) (hn : n ≤ 1000000) (hl : R.length ≤ 100000) (k : KE) (hk : k.ok) (hcap : st.size + 20 ≤ st.cap) :
    Calls Tryz.prog 159 #[.pointer (some ⟨xb, 0, none⟩), linkV k (lastR R (k.h % 8))] w (KAddTo w0 w xb g st n (k :: R)) := by
  obtain ⟨c0, c1, hz⟩ := h.cells
  have hle := lastR_le R (k.h % 8)
  obtain ⟨a, ha⟩ : ∃ a, a = lastR R (k.h % 8) := ⟨_, rfl⟩
  have hfit := link_fit hk (a := a) (by omega)
  have hput : put4 linkW (linkXs k a) = ⟨(bytesK linkW (linkXs k a) 4).toArray⟩ := by unfold put4; rw [hfit]; rfl
  obtain ⟨f1, hf1, hfb1⟩ := h.lnk
  obtain ⟨f2, hf2, hfb2⟩ := h.slt
  obtain ⟨s1, hs1⟩ : ∃ s : ByteArray, s = ⟨(bytesK linkW (linkXs k a) 4).toArray⟩ := ⟨_, rfl⟩
  obtain ⟨s2, hs2⟩ : ∃ s : ByteArray, s = ⟨(Oc.numB 3 (R.length + 1)).toArray⟩ := ⟨_, rfl⟩
  have hd1 : s1.data.toList = bytesK linkW (linkXs k a) 4 := by rw [hs1]
  have hd2 : s2.data.toList = Oc.numB 3 (R.length + 1) := by rw [hs2]
  have hz1 : s1.size = 20 := by rw [← text_len, hd1, link_size]
  have hz2 : s2.size = 3 := by rw [← text_len, hd2, Oc.numB_length]
  have hL1 := linksB_length R
  have hL2 := slotsB_length R
  have hb8 : k.h % 8 < 8 := Nat.mod_lt _ (by decide)
  obtain ⟨e1, e2, e3⟩ := calm_writeA h.calm (a := 20 * R.length) (s := s1) hf1 (by rw [hfb1]; omega) (by unfold more; rw [hfb1]; omega) (by omega)
  have hm1 : more f1 (20 * R.length) s1.size = 20 := by unfold more; rw [hfb1]; omega
  rw [hm1] at e2
  obtain ⟨st1, hst1⟩ : ∃ s, s = writeS st xL ((20 * R.length : Nat) : Int) s1 := ⟨_, rfl⟩
  rw [← hst1] at e2 e3
  have q1 : st1.find xL = some (addF f1 ⟨(st.turn : Int) + 1, 20 * R.length, s1⟩) := by rw [e2]; exact findS_same hf1
  have q2 : st1.find xS = some f2 := by rw [e2, findS_other (Ne.symm xLS)]; exact hf2
  have q3 : st1.size = st.size + 20 := by rw [e2]
  have q4 : st1.cap = st.cap := by rw [e2]
  have q5 : (addF f1 ⟨(st.turn : Int) + 1, 20 * R.length, s1⟩).bytes = linksB (k :: R) := by
    show putB f1.bytes (20 * R.length) s1.data.toList = _
    rw [hfb1, hd1, ha, links_put]
  obtain ⟨e4, e5, e6⟩ := calm_writeA e3 (a := 3 * (k.h % 8)) (s := s2) q2 (by rw [hfb2]; omega) (by unfold more; rw [hfb2]; omega) (by omega)
  have hm2 : more f2 (3 * (k.h % 8)) s2.size = 0 := by unfold more; rw [hfb2]; omega
  rw [hm2] at e5
  obtain ⟨st2, hst2⟩ : ∃ s, s = writeS st1 xS ((3 * (k.h % 8) : Nat) : Int) s2 := ⟨_, rfl⟩
  rw [← hst2] at e5 e6
  have q6 : st2.find xS = some (addF f2 ⟨(st1.turn : Int) + 1, 3 * (k.h % 8), s2⟩) := by rw [e5]; exact findS_same q2
  have q7 : st2.find xL = some (addF f1 ⟨(st.turn : Int) + 1, 20 * R.length, s1⟩) := by rw [e5, findS_other xLS]; exact q1
  have q8 : st2.size = st.size + 20 := by rw [e5]; exact q3
  have q9 : st2.cap = st.cap := by rw [e5]; exact q4
  have q11 : Others kH st st2 := by
    have h1 : Others kH st st1 := by rw [e2]; exact others_setF kH_xL
    have h2 : Others kH st1 st2 := by rw [e5]; exact others_setF kH_xS
    exact h1.trans h2
  have q12 : st2.fs.map (·.1) = st.fs.map (·.1) := by
    rw [e5]
    show (setF st1.fs _ _).map _ = _
    rw [names_setF, e2]
    exact names_setF ..
  have q10 : (addF f2 ⟨(st1.turn : Int) + 1, 3 * (k.h % 8), s2⟩).bytes = slotsB (k :: R) := by
    show putB f2.bytes (3 * (k.h % 8)) s2.data.toList = _
    rw [hfb2, hd2, slots_put]
  have hWr1 : ∀ W, DiskAt W g st → Calls Tryz.prog 76 #[.pointer (some ⟨g.d, 0, none⟩), .string xL, .int .i64 ((20 * R.length : Nat) : Int), .string s1] W (OpTo g 0 st1 W) := fun W hW => by
    have := write_any g st xL ((20 * R.length : Nat) : Int) s1 W hW (by decide) h.calm.good.fuse (by omega) h.calm.good.cap h.calm.good.size (by have := h.calm.good.turn; omega) (fun f hf => by
      rw [hf1] at hf; cases hf
      exact ⟨by rw [hfb1]; omega, by have := (h.calm.good.file hf1).count; omega⟩)
    rw [e1, ← hst1] at this
    exact this
  have hWr2 : ∀ g1 W, DiskAt W g1 st1 → g1.d = g.d → Calls Tryz.prog 76 #[.pointer (some ⟨g.d, 0, none⟩), .string xS, .int .i64 ((3 * (k.h % 8) : Nat) : Int), .string s2] W (OpTo g1 0 st2 W) := fun g1 W hW hg => by
    have := write_any g1 st1 xS ((3 * (k.h % 8) : Nat) : Int) s2 W hW (by decide) e3.good.fuse (by omega) e3.good.cap e3.good.size (by have := e3.good.turn; omega) (fun f hf => by
      rw [q2] at hf; cases hf
      exact ⟨by rw [hfb2]; omega, by have := (e3.good.file q2).count; omega⟩)
    rw [e4, ← hst2, hg] at this
    exact this
  have hPut : ∀ W, Calls Tryz.prog 214 #[.agg #[.int .i64 (k.h : Nat), .int .i64 (k.at_ : Nat), .int .i64 (k.born : Nat), .int .i64 (a : Nat)]] W fun e w' => e = .returned (.tuple #[.string s1, .bool true]) ∧ Below W.heap.size W w' := fun W => by
    have := linkPut_any (k.h : Nat) (k.at_ : Nat) (k.born : Nat) (a : Nat) W
    unfold PutPost at this
    rw [show put4 [5, 6, 6, 3] [((k.h : Nat) : Int), ((k.at_ : Nat) : Int), ((k.born : Nat) : Int), ((a : Nat) : Int)] = s1 from by rw [hs1]; exact hput, show fit4 [5, 6, 6, 3] [((k.h : Nat) : Int), ((k.at_ : Nat) : Int), ((k.born : Nat) : Int), ((a : Nat) : Int)] = true from hfit] at this
    exact this
  have hNum : ∀ W v, Oc.Ints W v [((R.length + 1 : Nat) : Int)] → Calls Tryz.prog 165 #[.int .i64 3, v] W fun e w' => e = .returned (.tuple #[.string s2, .int .i64 0]) ∧ Below W.heap.size W w' := fun W v hv => by
    have := Oc.numS_ok 3 v [((R.length + 1 : Nat) : Int)] W (by decide) (by decide) (by show 1 ≤ _; omega) hv (fun x hx => by
      rw [List.mem_singleton.1 hx]
      exact ⟨Int.natCast_nonneg _, by show ((R.length + 1 : Nat) : Int) < 16777216; omega⟩)
    have e : Oc.numsB 3 [((R.length + 1 : Nat) : Int)] = Oc.numB 3 (R.length + 1) := by
      unfold Oc.numsB
      rw [List.flatMap_cons, List.flatMap_nil, List.append_nil, Int.toNat_natCast]
    rw [e, ← hs2] at this
    exact this
  have hend : ∀ (w5 : World) (g5 : Gh), DiskAt w5 g5 st2 → Gh.To w g g5 w5 → KAddTo w0 w xb g st n (k :: R) (.returned (.int .i64 0)) (w5.setCell ⟨xb, 1, none⟩ (.int .i64 ((R.length + 1 : Nat) : Int))) := fun w5 g5 d5 t => by
    have hlt := h.lt
    have hsz := t.chg.size
    have hsz0 := h.disk.chg.size
    have hout5 : xb ∉ g5.fp := fun hx => by
      rcases t.fp xb hx with h1 | h1
      · exact h.out h1
      · omega
    have hc5 := t.chg.heap h.cell h.out
    have hset : Chg (fun q => q = xb) w5 (w5.setCell ⟨xb, 1, none⟩ (.int .i64 ((R.length + 1 : Nat) : Int))) := Chg.setCell (S := fun q => q = xb) (p := ⟨xb, 1, none⟩) (Chg.refl _ _) (fun _ => rfl) _
    have hall : Chg (fun _ => False) w0 (w5.setCell ⟨xb, 1, none⟩ (.int .i64 ((R.length + 1 : Nat) : Int))) := (h.disk.chg.trans t.chg (fun i hi hx => by have := h.disk.low i hx; omega)).trans hset (fun i hi hx => by have := h.low; omega)
    refine ⟨rfl, g5, st2, ⟨⟨d5.chg hset (fun q hq hx => hout5 (hx ▸ hq)), rfl, hall, fun q hq => ?_⟩, e6, ?_, h.low, hout5, ⟨_, q7, q5⟩, ⟨_, q6, q10⟩, ?_⟩, ⟨(t.chg.wide (fun _ _ x => .inr x)).trans hset (fun i hi hx => .inl hx), t.fp, t.d⟩, q9, q8, q11, q12⟩
    · rcases t.fp q hq with a1 | a1
      · exact h.disk.low q a1
      · omega
    · have := heap_setCell_same w5 xb 1 _ _ (.int .i64 ((R.length + 1 : Nat) : Int)) hc5
      rw [t.d]
      exact this
    · intro x hx
      rcases List.mem_cons.1 hx with rfl | hx
      · exact hk
      · exact h.ok x hx
  have hkeep : ∀ (W : World) (g' : Gh), Gh.To w g g' W → W.cell? ⟨xb, 0, none⟩ = some (.pointer (some ⟨g.d, 0, none⟩)) ∧ W.frozen? ⟨xb, 1, none⟩ = false ∧ W.cell? ⟨xb, 1, none⟩ = some (.int .i64 (R.length : Nat)) := fun W g' t => by
    have := t.chg.heap h.cell h.out
    exact ⟨by simp [World.cell?, this], by simp [World.frozen?, this], by simp [World.cell?, this]⟩
  have hD0 := h.disk.disk
  have hlt := h.lt
  have e7 : IntKind.i64.wrap ((R.length : Int) + 1) = ((R.length + 1 : Nat) : Int) := by rw [IntWalk.i64_in _ (by omega)]; omega
  have hmod : ((k.h : Int).tmod 8) = ((k.h % 8 : Nat) : Int) := by rw [Int.tmod_eq_emod_of_nonneg (by omega)]; omega
  have e8 : IntKind.i64.wrap (3 * ((k.h % 8 : Nat) : Int)) = ((3 * (k.h % 8) : Nat) : Int) := by rw [IntWalk.i64_in _ (by omega)]; omega
  have HPL : Hid (∀ W, Calls Tryz.prog 137 #[.int .i64 ((R.length + 1 : Nat) : Int)] W fun e w' => e = .returned (.int .i64 ((20 * R.length : Nat) : Int)) ∧ W = w') := Lib.hid (fun W => kplace_any R.length W (by omega))
  obtain ⟨N, hN⟩ : ∃ N : Int, N = ((R.length + 1 : Nat) : Int) := ⟨_, rfl⟩
  obtain ⟨P1, hP1⟩ : ∃ N : Int, N = ((20 * R.length : Nat) : Int) := ⟨_, rfl⟩
  obtain ⟨P2, hP2⟩ : ∃ N : Int, N = ((3 * (k.h % 8) : Nat) : Int) := ⟨_, rfl⟩
  obtain ⟨M, hM⟩ : ∃ N : Int, N = ((k.h % 8 : Nat) : Int) := ⟨_, rfl⟩
  obtain ⟨C, hC⟩ : ∃ N : Int, N = (R.length : Int) := ⟨_, rfl⟩
  rw [← ha]
  unfold linkV
  obtain ⟨kh, ka, kb⟩ := k
  dsimp only at *
  rw [← hN] at hend hNum e7
  rw [← hP1] at hWr1
  simp only [← hP2] at hWr2
  rw [← hP1, ← hN] at HPL
  rw [← hP2, ← hM] at e8
  rw [← hM] at hmod
  rw [← hC] at e7 c1
  have HEND := Lib.hid hend
  have HKEEP := Lib.hid hkeep
  have HPUT := Lib.hid hPut
  have HNUM := Lib.hid hNum
  have HW1 := Lib.hid hWr1
  have HW2 := Lib.hid hWr2
  have HD0 := Lib.hid hD0
  obtain ⟨W0, hW0⟩ : ∃ W, W = w.alloc (.cells #[.int .i64 (kh : Int), .int .i64 (ka : Int), .int .i64 (kb : Int), .int .i64 (a : Int)] 111) := ⟨_, rfl⟩
  have hb0 : Below w.heap.size w W0 := hW0 ▸ (Below.refl _ _).alloc (Nat.le_refl _) _
  have k0 := (hb0.cell (p := ⟨xb, 0, none⟩) hlt).trans c0
  have k1 := (hb0.cell (p := ⟨xb, 1, none⟩) hlt).trans c1
  have j0 : W0.cell? ⟨w.heap.size, 0, none⟩ = some (.int .i64 (kh : Int)) := by rw [hW0]; simp
  have j1 : W0.cell? ⟨w.heap.size, 1, none⟩ = some (.int .i64 (ka : Int)) := by rw [hW0]; simp
  have j2 : W0.cell? ⟨w.heap.size, 2, none⟩ = some (.int .i64 (kb : Int)) := by rw [hW0]; simp
  have j3 : W0.cell? ⟨w.heap.size, 3, none⟩ = some (.int .i64 (a : Int)) := by rw [hW0]; simp
  have HW0 := Lib.hid hW0
  have HB0 := Lib.hid hb0
  have HXL : Hid (xb < w.heap.size) := Lib.hid hlt
  clear hend hkeep hPut hNum hWr1 hWr2 hD0 hW0 hb0 c0 c1 h hn hl hk hcap hz hle ha hfit hput hf1 hfb1 hf2 hfb2 hs1 hs2 hd1 hd2 hz1 hz2 hL1 hL2 hb8 e1 e2 e3 hm1 hst1 q1 q2 q3 q4 q5 e4 e5 e6 hm2 hst2 q6 q7 q8 q9 q10 q11 q12 hlt hN hP1 hP2 hM hC
  go_enter Tryz.func159, Tryz.ntmps159
  go_upto_region 1 with fail
  rw [← HW0.out]
  go_wp2_with fail
  refine (HPUT.out _).mono ?_
  rintro e w2 ⟨rfl, hb2⟩
  have k0 := keep4 hb2 k0
  have j0 := keep4 hb2 j0
  have HB2 := Lib.hid (below_on hb2 HB0.out (Nat.le_refl _))
  clear hb2 k1 j1 j2 j3
  go_wp2_with fail
  have hI : Oc.Ints (w2.alloc (.cells #[.int .i64 N] 3)) (.slice (some ⟨w2.heap.size, 0, none⟩) 1 1) [N] := ⟨_, _, rfl, .inr ⟨w2.heap.size, 0, rfl, fun i hi => by
    obtain rfl : i = 0 := by simp at hi; exact hi
    simp⟩⟩
  refine (HNUM.out _ _ hI).mono ?_
  rintro e w3 ⟨rfl, hb3⟩
  have hb3' : Below w2.heap.size w2 w3 := ((Below.refl w2.heap.size w2).alloc (Nat.le_refl _) _).trans (hb3.mono (by rw [World.size_alloc]; omega))
  have k0 := keep4 hb3' k0
  have j0 := keep4 hb3' j0
  have HB3 := Lib.hid (below_on hb3' HB2.out (Nat.le_refl _))
  clear hb3 hb3' hI
  go_upto_region 4 with fail
  go_still_tail 7, (by kernel_rfl)
  still_call ((HPL.out _).mono fun _ _ h => ⟨h.1, h.2.symm⟩)
  repeat still_step
  refine wpStill_nil ?_
  change wpList _ _ _ _ _ w3.drew
  have HB4 := Lib.hid (HB3.out.drew)
  have k0 : w3.drew.cell? ⟨xb, 0, none⟩ = some (.pointer (some ⟨g.d, 0, none⟩)) := k0
  have j0 : w3.drew.cell? ⟨w.heap.size, 0, none⟩ = some (.int .i64 (kh : Int)) := j0
  generalize w3.drew = w4 at HB4 k0 j0 ⊢
  have HW1' := Lib.hid (HW1.out w4 (HD0.out.new (Chg.of_below HB4.out)))
  go_wp2_with fail
  refine HW1'.out.mono ?_
  rintro e w5 ⟨rfl, g5, hd5, ht5⟩
  have ht := (Gh.To.new g (Chg.of_below HB4.out : Chg (fun _ => False) w w4)).trans ht5
  obtain ⟨k0, z1, k1⟩ := HKEEP.out w5 g5 ht
  have j0 : w5.cell? ⟨w.heap.size, 0, none⟩ = some (.int .i64 (kh : Int)) := ht5.chg.cell (p := ⟨w.heap.size, 0, none⟩) j0 (fun hx => Nat.lt_irrefl _ (HD0.out.lt _ hx))
  have HD5 := Lib.hid hd5
  have HT5 := Lib.hid ht
  clear hd5 ht5 ht
  go_wp2_with fail
  go_still_tail 9, (by kernel_rfl)
  change wpList _ _ _ _ _ w5.drew
  have HD6 := Lib.hid (HD5.out.drew)
  have HT6 := Lib.hid (HT5.out.trans (Gh.To.new g5 (Chg.refl (fun _ => False) w5).drew))
  generalize w5.drew = w6 at HD6 HT6 ⊢
  have HW2' := Lib.hid (HW2.out g5 w6 HD6.out HT6.out.d)
  go_wp2_with fail
  refine HW2'.out.mono ?_
  rintro e w7 ⟨rfl, g7, hd7, ht7⟩
  have ht := HT6.out.trans ht7
  obtain ⟨k0, z1, k1⟩ := HKEEP.out w7 g7 ht
  have HE := Lib.hid (HEND.out w7 g7 hd7 ht)
  clear hd7 ht7 ht
  go_wp2_with fail
  go_ret
  exact HE.out
end Go.Proofs.YtdnhgodfmjapmaaGreatDoor
