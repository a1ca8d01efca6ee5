/- A part. -/
import Derived.Test.YtemimmnamajooaaGreatOpl19
import Derived.Test.YtemimmnamajooaaGreatOpl24
set_option linter.unusedVariables false
set_option linter.unusedSimpArgs false
namespace Go.Proofs.YtemimmnamajooaaGreat
open Go.RowKit Go.Deep
theorem ukeep {w1 w2 : World} (hb : Below w1.heap.size w1 w2) {b i : Nat} {v : Value} (h : w1.cell? ⟨b, i, none⟩ = some v) : w2.cell? ⟨b, i, none⟩ = some v :=
  (World.cell?_of_block (hb.block b (World.block_lt_of_cell? _ _ h))).trans h
theorem ubelow_on {B : Nat} {w w1 w2 : World} (hb : Below w1.heap.size w1 w2) (h : Below B w w1) (hB : B ≤ w.heap.size) : Below B w w2 := h.trans (hb.mono (Nat.le_trans hB h.size))
theorem OpTo.on {g : Gh} {k : Int} {st : St} {w w1 : World} {e : Ending} {w' : World} (hb : Below w.heap.size w w1) (h : OpTo g k st w1 e w') : OpTo g k st w e w' := by
  obtain ⟨he, g', hd, ht⟩ := h
  exact ⟨he, g', hd, (Gh.To.new g (Chg.of_below hb)).trans ht⟩
theorem one_out {g : Gh} {st : St} {W : World} (h : DiskAt W g st) : Out g (.slice (some ⟨W.heap.size, 0, none⟩) 1 1) := fun b o len cap e h0 hx => by
  injection e with e1
  injection e1 with e1
  injection e1 with e1
  subst e1
  exact Nat.lt_irrefl _ (h.lt _ hx)
theorem rem_any {n : Nat} {g : Gh} {st : St} {W : World} (f : ByteArray) (h : DiskAt W g st) (hg : Good n st) (hf : f.size ≤ maxLen) :
    Calls Tryz.prog 68 #[.pointer (some ⟨g.d, 0, none⟩), .string f] W (OpTo g (remE st f) (remS st f) W) := by
  have hb : Below W.heap.size W (W.alloc (.cells #[.string f] 9)) := (Below.refl _ _).alloc (Nat.le_refl _) _
  have hD := delete_any g st (.slice (some ⟨W.heap.size, 0, none⟩) 1 1) [f] (W.alloc (.cells #[.string f] 9)) (h.new (Chg.of_below hb)) (strs_one W f) (one_out h) (fun t ht => by simp at ht; rw [ht]; exact hf) (by show 1 ≤ 1099511627776; decide) hg.fuse hg.sizeOk (by have := hg.size; have := hg.cap; omega)
  obtain ⟨k, hk⟩ : ∃ k, k = deleteE st [f] := ⟨_, rfl⟩
  rw [← hk] at hD
  have hE : remE st f = if k = 9 then 0 else k := by unfold remE; rw [← hk]
  have hS : remS st f = deleteS st [f] := rfl
  have HD := Lib.hid (hD.mono fun e w' h' => OpTo.on hb h')
  have HE := Lib.hid hE
  have HS := Lib.hid hS
  clear hD hE hS hk h hb
  by_cases h9 : k = 9
  · subst h9
    rw [HE.out, if_pos rfl]
    go_enter Tryz.func68, Tryz.ntmps68
    go_wp2_with fail
    refine HD.out.mono ?_
    rintro e w2 ⟨rfl, h2⟩
    have H2 := Lib.hid h2
    clear h2
    go_wp2_with fail
    go_ret
    exact ⟨rfl, H2.out⟩
  · rw [HE.out, if_neg h9]
    have hk9 : (k != 9) = true := by simpa using h9
    clear h9
    go_enter Tryz.func68, Tryz.ntmps68
    go_wp2_with fail
    refine HD.out.mono ?_
    rintro e w2 ⟨rfl, h2⟩
    have H2 := Lib.hid h2
    clear h2
    go_wp2_with fail
    go_ret
    exact ⟨rfl, H2.out⟩
theorem c1_any {n : Nat} {g : Gh} {st : St} {W : World} (f : ByteArray) (A F : Nat) (h : DiskAt W g st) (hg : Good n st) (hf : f.size ≤ maxLen) (ha : W.cell? ⟨A, 0, none⟩ = some (.pointer (some ⟨g.d, 0, none⟩))) (hF : W.cell? ⟨F, 0, none⟩ = some (.string f)) :
    Calls Tryz.prog 67 #[.pointer (some ⟨A, 0, none⟩), .pointer (some ⟨F, 0, none⟩)] W (OpTo g (remE st f) (remS st f) W) := by
  have HD := Lib.hid (rem_any f h hg hf)
  clear h hg
  go_enter Tryz.func67, Tryz.ntmps67
  go_wp2_with fail
  refine HD.out.mono ?_
  rintro e w2 ⟨rfl, h2⟩
  have H2 := Lib.hid h2
  clear h2
  go_wp2_with fail
  go_ret
  exact ⟨rfl, H2.out⟩
theorem c2_any {n : Nat} {g : Gh} {st : St} {W : World} (f : ByteArray) (A F : Nat) (h : DiskAt W g st) (hg : Good n st) (hn : n ≤ 1000000) (hf : f.size ≤ maxLen) (ha : W.cell? ⟨A, 0, none⟩ = some (.pointer (some ⟨g.d, 0, none⟩))) (hF : W.cell? ⟨F, 0, none⟩ = some (.string f)) :
    Calls Tryz.prog 69 #[.pointer (some ⟨A, 0, none⟩), .pointer (some ⟨F, 0, none⟩)] W (OpTo g (createE st f) (createS st f) W) := by
  have HD := Lib.hid (create_any g st f W h hf hg.fuse (by have := hg.len; omega))
  clear h hg
  go_enter Tryz.func69, Tryz.ntmps69
  go_wp2_with fail
  refine HD.out.mono ?_
  rintro e w2 ⟨rfl, h2⟩
  have H2 := Lib.hid h2
  clear h2
  go_wp2_with fail
  go_ret
  exact ⟨rfl, H2.out⟩
set_option maxHeartbeats 2000000 in
theorem c3_any {n : Nat} {g : Gh} {st : St} {W : World} (f s : ByteArray) (A F S : Nat) (h : DiskAt W g st) (hg : Good n st) (hn : n ≤ 1000000) (hf : f.size ≤ maxLen) (hs : s.size ≤ 1000000) (ha : W.cell? ⟨A, 0, none⟩ = some (.pointer (some ⟨g.d, 0, none⟩))) (hF : W.cell? ⟨F, 0, none⟩ = some (.string f)) (hS : W.cell? ⟨S, 0, none⟩ = some (.string s)) (hnA : A ∉ g.fp) (hnF : F ∉ g.fp) (hnS : S ∉ g.fp) :
    Calls Tryz.prog 70 #[.pointer (some ⟨A, 0, none⟩), .pointer (some ⟨F, 0, none⟩), .pointer (some ⟨S, 0, none⟩)] W (OpTo g (writeE st f 0 ⟨(Cr.sealB s).toArray⟩) (writeS st f 0 ⟨(Cr.sealB s).toArray⟩) W) := by
  have hl : (⟨(Cr.sealB s).toArray⟩ : ByteArray).size ≤ 1073741824 := by
    show (Cr.sealB s).toArray.size ≤ _
    rw [List.size_toArray, Cr.sealB_length]
    omega
  obtain ⟨b, hb⟩ : ∃ b : ByteArray, b = ⟨(Cr.sealB s).toArray⟩ := ⟨_, rfl⟩
  rw [← hb] at hl ⊢
  have HW : Hid (∀ W', Below W.heap.size W W' → Calls Tryz.prog 22 #[.pointer (some ⟨g.d, 0, none⟩), .string f, .int .i64 0, .string b] W' (OpTo g (writeE st f 0 b) (writeS st f 0 b) W)) := Lib.hid (fun W' hW =>
    (write_any g st f 0 b W' (h.new (Chg.of_below hW)) hf hg.fuse hl hg.cap hg.size (by have := hg.turn; omega) (fun F' hF' => by
      have := hg.within (by omega) (find_mem hF')
      exact ⟨this.2.1, this.2.2.1⟩)).mono fun e w' h' => OpTo.on hW h')
  have HN : Hid (∀ W', Calls Tryz.prog 53 #[] W' fun e w' => e = .returned (.pointer (some ⟨W'.heap.size, 0, none⟩)) ∧ Cr.Tab w' W'.heap.size ∧ Below W'.heap.size W' w') := Lib.hid (fun W' => Cr.new_any W')
  have HL : Hid (∀ W' t, Cr.Tab W' t → Calls Tryz.prog 71 #[.pointer (some ⟨t, 0, none⟩), .string s] W' fun e w' => e = .returned (.string b) ∧ Below W'.heap.size W' w') := Lib.hid (fun W' t ht => by
    have := Cr.seal_any t s W' ht hs
    rw [← hb] at this
    exact this)
  have HK : Hid (∀ w5 st', (∃ g', DiskAt w5 g' st' ∧ Gh.To W g g' w5) → w5.cell? ⟨A, 0, none⟩ = some (.pointer (some ⟨g.d, 0, none⟩)) ∧ w5.cell? ⟨F, 0, none⟩ = some (.string f) ∧ w5.cell? ⟨S, 0, none⟩ = some (.string s)) := Lib.hid (fun w5 st' ⟨g', _, ht⟩ => ⟨ht.chg.cell ha hnA, ht.chg.cell hF hnF, ht.chg.cell hS hnS⟩)
  clear h hg hb hl hs hnA hnF hnS
  go_enter Tryz.func70, Tryz.ntmps70
  go_upto_region 1 with fail
  go_region_held3 (fun w' => w'.cell? ⟨A, 0, none⟩ = some (.pointer (some ⟨g.d, 0, none⟩)) ∧ w'.cell? ⟨F, 0, none⟩ = some (.string f) ∧ w'.cell? ⟨S, 0, none⟩ = some (.string s))
    (first | exact ⟨ha, hF, hS⟩ | go_keep)
    (first
      | (go_at_call 53
         refine (HN.out _).mono ?_
         rintro e w2 ⟨rfl, ht2, hb2⟩
         have ha := ukeep hb2 ha
         have hF := ukeep hb2 hF
         have hS := ukeep hb2 hS
         have HB2 := Lib.hid hb2
         have HT2 := Lib.hid ht2
         clear hb2 ht2)
      | (go_at_call 71
         refine (HL.out _ _ HT2.out).mono ?_
         rintro e w3 ⟨rfl, hb3⟩
         have ha := ukeep hb3 ha
         have hF := ukeep hb3 hF
         have hS := ukeep hb3 hS
         have HB3 := Lib.hid hb3
         clear hb3)
      | (go_at_call 22
         refine (HW.out _ ?_).mono ?_
         · repeat (first | exact Below.refl _ _ | with_reducible refine below_drewN ?_ _ | with_reducible refine Below.drew ?_ | (refine ubelow_on HB3.out ?_ (Nat.le_refl _)) | (refine ubelow_on HB2.out ?_ (Nat.le_refl _)))
         rintro e w5 ⟨rfl, h5⟩
         obtain ⟨ha, hF, hS⟩ := HK.out _ _ h5
         have H5 := Lib.hid h5
         clear h5))
  all_goals
    go_wp2_with fail
    go_ret
    refine ⟨rfl, ?_⟩
    first | exact H5.out | (obtain ⟨g5, hd5, ht5⟩ := H5.out; exact ⟨g5, hd5.new ((Chg.refl _ _).drewN _), ht5.trans (Gh.To.new g5 ((Chg.refl _ _).drewN _))⟩) | (obtain ⟨g5, hd5, ht5⟩ := H5.out; exact ⟨g5, hd5.drew, ht5.trans (Gh.To.new g5 (Chg.refl _ _).drew)⟩)
theorem c4_any {n : Nat} {g : Gh} {st : St} {W : World} (f : ByteArray) (A F : Nat) (h : DiskAt W g st) (hg : Good n st) (hn : n ≤ 1000000) (hf : f.size ≤ maxLen) (ha : W.cell? ⟨A, 0, none⟩ = some (.pointer (some ⟨g.d, 0, none⟩))) (hF : W.cell? ⟨F, 0, none⟩ = some (.string f)) :
    Calls Tryz.prog 72 #[.pointer (some ⟨A, 0, none⟩), .pointer (some ⟨F, 0, none⟩)] W (OpTo g (syncE st [f]) (syncS st [f]) W) := by
  have hb : Below W.heap.size W (W.alloc (.cells #[.string f] 9)) := (Below.refl _ _).alloc (Nat.le_refl _) _
  have hD := syncd_any g st (.slice (some ⟨W.heap.size, 0, none⟩) 1 1) [f] (W.alloc (.cells #[.string f] 9)) (h.new (Chg.of_below hb)) (strs_one W f) (one_out h) (fun t ht => by simp at ht; rw [ht]; exact hf) (by show 1 ≤ 1099511627776; decide) hg.fuse (hg.allIn (by omega))
  have HD := Lib.hid (hD.mono fun e w' h' => OpTo.on hb h')
  clear hD h hg hb
  go_enter Tryz.func72, Tryz.ntmps72
  go_wp2_with fail
  refine HD.out.mono ?_
  rintro e w2 ⟨rfl, h2⟩
  have H2 := Lib.hid h2
  clear h2
  go_wp2_with fail
  go_ret
  exact ⟨rfl, H2.out⟩
theorem c5_any {n : Nat} {g : Gh} {st : St} {W : World} (f nm : ByteArray) (A F M : Nat) (h : DiskAt W g st) (hg : Good n st) (hn : n ≤ 1000000) (hf : f.size ≤ maxLen) (hm : nm.size ≤ maxLen) (ha : W.cell? ⟨A, 0, none⟩ = some (.pointer (some ⟨g.d, 0, none⟩))) (hF : W.cell? ⟨F, 0, none⟩ = some (.string f)) (hM : W.cell? ⟨M, 0, none⟩ = some (.string nm)) :
    Calls Tryz.prog 74 #[.pointer (some ⟨A, 0, none⟩), .pointer (some ⟨F, 0, none⟩), .pointer (some ⟨M, 0, none⟩)] W (OpTo g (renameE st f) (renameS st f nm) W) := by
  have HD := Lib.hid (rename_any g st f nm W h hf hm hg.fuse (by have := hg.size; have := hg.cap; omega) hg.sizeOk (by have := hg.len; omega))
  clear h hg
  go_enter Tryz.func74, Tryz.ntmps74
  go_wp2_with fail
  refine HD.out.mono ?_
  rintro e w2 ⟨rfl, h2⟩
  have H2 := Lib.hid h2
  clear h2
  go_wp2_with fail
  go_ret
  exact ⟨rfl, H2.out⟩
def fiveV (A M S F : Nat) : Array Value := #[.func (.func 67) #[] #[.pointer (some ⟨A, 0, none⟩), .pointer (some ⟨F, 0, none⟩)], .func (.func 69) #[] #[.pointer (some ⟨A, 0, none⟩), .pointer (some ⟨F, 0, none⟩)], .func (.func 70) #[] #[.pointer (some ⟨A, 0, none⟩), .pointer (some ⟨F, 0, none⟩), .pointer (some ⟨S, 0, none⟩)], .func (.func 72) #[] #[.pointer (some ⟨A, 0, none⟩), .pointer (some ⟨F, 0, none⟩)], .func (.func 74) #[] #[.pointer (some ⟨A, 0, none⟩), .pointer (some ⟨F, 0, none⟩), .pointer (some ⟨M, 0, none⟩)]]
def FstTo (w1 : World) (g : Gh) (st : St) (f nm b : ByteArray) (e : Ending) (w' : World) : Prop := e = .returned (.int .i64 (fstE st f nm b)) ∧ ∃ g', DiskAt w' g' (fstS st f nm b) ∧ Gh.To w1 g g' w'
set_option maxHeartbeats 4000000 in
set_option maxRecDepth 100000 in
theorem first_any {n : Nat} {g : Gh} {st : St} {w1 : World} (f nm s b : ByteArray) (A M S F L : Nat) (hb : b = ⟨(Cr.sealB s).toArray⟩) (h : DiskAt w1 g st) (hg : Good n st) (hn : n ≤ 900000) (hf : f.size ≤ maxLen) (hm : nm.size ≤ maxLen) (hs : s.size ≤ 1000000)
    (ha : w1.cell? ⟨A, 0, none⟩ = some (.pointer (some ⟨g.d, 0, none⟩))) (hM : w1.cell? ⟨M, 0, none⟩ = some (.string nm)) (hS : w1.cell? ⟨S, 0, none⟩ = some (.string s)) (hF : w1.cell? ⟨F, 0, none⟩ = some (.string f))
    (hL : ∃ t, w1.heap[L]? = some (.cells (fiveV A M S F) t (0, 0))) (hnA : A ∉ g.fp) (hnM : M ∉ g.fp) (hnS : S ∉ g.fp) (hnF : F ∉ g.fp) (hnL : L ∉ g.fp) :
    Calls Tryz.prog 66 #[.slice (some ⟨L, 0, none⟩) 5 5] w1 (FstTo w1 g st f nm b) := by
  have hgood := fun k => svS_good hg f nm b k
  have lA := World.block_lt_of_cell? _ _ ha
  have lF := World.block_lt_of_cell? _ _ hF
  have lS := World.block_lt_of_cell? _ _ hS
  have fpn : ∀ (W : World) (g' : Gh) {B : Nat}, Gh.To w1 g g' W → B ∉ g.fp → B < w1.heap.size → B ∉ g'.fp := fun W g' B ht hB hl hx => by
    rcases ht.fp B hx with h1 | h1
    · exact hB h1
    · omega
  have kc : ∀ (W : World) (g' : Gh) {B : Nat} {v : Value}, Gh.To w1 g g' W → B ∉ g.fp → w1.cell? ⟨B, 0, none⟩ = some v → W.cell? ⟨B, 0, none⟩ = some v := fun W g' B v ht hB hc => ht.chg.cell hc hB
  have H0 : Hid (∀ (W : World) (g' : Gh), DiskAt W g' (svS st f nm b 0) → Gh.To w1 g g' W → Calls Tryz.prog 67 #[.pointer (some ⟨A, 0, none⟩), .pointer (some ⟨F, 0, none⟩)] W (OpTo g' (svE st f nm b 0) (svS st f nm b 1) W)) := Lib.hid (fun W g' hd ht => by
    have := c1_any f A F hd (hgood 0) hf (ht.d ▸ kc W g' ht hnA ha) (kc W g' ht hnF hF)
    exact this)
  have H1 : Hid (∀ (W : World) (g' : Gh), DiskAt W g' (svS st f nm b 1) → Gh.To w1 g g' W → Calls Tryz.prog 69 #[.pointer (some ⟨A, 0, none⟩), .pointer (some ⟨F, 0, none⟩)] W (OpTo g' (svE st f nm b 1) (svS st f nm b 2) W)) := Lib.hid (fun W g' hd ht => by
    have := c2_any f A F hd (hgood 1) (by omega) hf (ht.d ▸ kc W g' ht hnA ha) (kc W g' ht hnF hF)
    exact this)
  have H2 : Hid (∀ (W : World) (g' : Gh), DiskAt W g' (svS st f nm b 2) → Gh.To w1 g g' W → Calls Tryz.prog 70 #[.pointer (some ⟨A, 0, none⟩), .pointer (some ⟨F, 0, none⟩), .pointer (some ⟨S, 0, none⟩)] W (OpTo g' (svE st f nm b 2) (svS st f nm b 3) W)) := Lib.hid (fun W g' hd ht => by
    have := c3_any f s A F S hd (hgood 2) (by omega) hf hs (ht.d ▸ kc W g' ht hnA ha) (kc W g' ht hnF hF) (kc W g' ht hnS hS) (fpn W g' ht hnA (lA)) (fpn W g' ht hnF lF) (fpn W g' ht hnS lS)
    rw [← hb] at this
    exact this)
  have H3 : Hid (∀ (W : World) (g' : Gh), DiskAt W g' (svS st f nm b 3) → Gh.To w1 g g' W → Calls Tryz.prog 72 #[.pointer (some ⟨A, 0, none⟩), .pointer (some ⟨F, 0, none⟩)] W (OpTo g' (svE st f nm b 3) (svS st f nm b 4) W)) := Lib.hid (fun W g' hd ht => by
    have := c4_any f A F hd (hgood 3) (by omega) hf (ht.d ▸ kc W g' ht hnA ha) (kc W g' ht hnF hF)
    exact this)
  have H4 : Hid (∀ (W : World) (g' : Gh), DiskAt W g' (svS st f nm b 4) → Gh.To w1 g g' W → Calls Tryz.prog 74 #[.pointer (some ⟨A, 0, none⟩), .pointer (some ⟨F, 0, none⟩), .pointer (some ⟨M, 0, none⟩)] W (OpTo g' (svE st f nm b 4) (svS st f nm b 5) W)) := Lib.hid (fun W g' hd ht => by
    have := c5_any f nm A F M hd (hgood 4) (by omega) hf hm (ht.d ▸ kc W g' ht hnA ha) (kc W g' ht hnF hF) (kc W g' ht hnM hM)
    exact this)
  obtain ⟨tL, hL⟩ := hL
  have hl0 : w1.cell? ⟨L, 0, none⟩ = some (.func (.func 67) #[] #[.pointer (some ⟨A, 0, none⟩), .pointer (some ⟨F, 0, none⟩)]) := by simp [World.cell?, hL, fiveV]
  have hl1 : w1.cell? ⟨L, 1, none⟩ = some (.func (.func 69) #[] #[.pointer (some ⟨A, 0, none⟩), .pointer (some ⟨F, 0, none⟩)]) := by simp [World.cell?, hL, fiveV]
  have hl2 : w1.cell? ⟨L, 2, none⟩ = some (.func (.func 70) #[] #[.pointer (some ⟨A, 0, none⟩), .pointer (some ⟨F, 0, none⟩), .pointer (some ⟨S, 0, none⟩)]) := by simp [World.cell?, hL, fiveV]
  have hl3 : w1.cell? ⟨L, 3, none⟩ = some (.func (.func 72) #[] #[.pointer (some ⟨A, 0, none⟩), .pointer (some ⟨F, 0, none⟩)]) := by simp [World.cell?, hL, fiveV]
  have hl4 : w1.cell? ⟨L, 4, none⟩ = some (.func (.func 74) #[] #[.pointer (some ⟨A, 0, none⟩), .pointer (some ⟨F, 0, none⟩), .pointer (some ⟨M, 0, none⟩)]) := by simp [World.cell?, hL, fiveV]
  have KL : Hid (∀ (W : World) (g' : Gh), Gh.To w1 g g' W → W.cell? ⟨L, 0, none⟩ = some (.func (.func 67) #[] #[.pointer (some ⟨A, 0, none⟩), .pointer (some ⟨F, 0, none⟩)]) ∧ W.cell? ⟨L, 1, none⟩ = some (.func (.func 69) #[] #[.pointer (some ⟨A, 0, none⟩), .pointer (some ⟨F, 0, none⟩)]) ∧ W.cell? ⟨L, 2, none⟩ = some (.func (.func 70) #[] #[.pointer (some ⟨A, 0, none⟩), .pointer (some ⟨F, 0, none⟩), .pointer (some ⟨S, 0, none⟩)]) ∧ W.cell? ⟨L, 3, none⟩ = some (.func (.func 72) #[] #[.pointer (some ⟨A, 0, none⟩), .pointer (some ⟨F, 0, none⟩)]) ∧ W.cell? ⟨L, 4, none⟩ = some (.func (.func 74) #[] #[.pointer (some ⟨A, 0, none⟩), .pointer (some ⟨F, 0, none⟩), .pointer (some ⟨M, 0, none⟩)])) := Lib.hid (fun W g' ht => ⟨ht.chg.cell hl0 hnL, ht.chg.cell hl1 hnL, ht.chg.cell hl2 hnL, ht.chg.cell hl3 hnL, ht.chg.cell hl4 hnL⟩)
  obtain ⟨E, hE⟩ : ∃ E, E = svE st f nm b := ⟨_, rfl⟩
  have e0 : svE st f nm b 0 = E 0 := by rw [hE]
  have e1 : svE st f nm b 1 = E 1 := by rw [hE]
  have e2 : svE st f nm b 2 = E 2 := by rw [hE]
  have e3 : svE st f nm b 3 = E 3 := by rw [hE]
  have e4 : svE st f nm b 4 = E 4 := by rw [hE]
  rw [e0] at H0
  rw [e1] at H1
  rw [e2] at H2
  rw [e3] at H3
  rw [e4] at H4
  have HE := Lib.hid hE
  have HD := Lib.hid h
  clear h hg hL fpn lA lF lS hl0 hl1 hl2 hl3 hl4 hE e0 e1 e2 e3 e4 kc hgood ha hM hS hF hnA hnM hnS hnF hnL hb
  have hdone : ∀ (k : Nat), k < 5 → (∀ j, j < k → E j = 0) → E k ≠ 0 → ∀ (w' : World) (g' : Gh), DiskAt w' g' (svS st f nm b (k + 1)) → Gh.To w1 g g' w' → FstTo w1 g st f nm b (.returned (.int .i64 (E k))) w' := fun k hk h0 hb w' g' hd ht => by
    have hK : svK (svE st f nm b) = k := by rw [← HE.out]; exact svK_at E k h0 hk hb
    refine ⟨by unfold fstE; rw [hK, ← HE.out], g', ?_, ht⟩
    unfold fstS; rw [hK]; exact hd
  have hall : (∀ j, j < 5 → E j = 0) → ∀ (w' : World) (g' : Gh), DiskAt w' g' (svS st f nm b 5) → Gh.To w1 g g' w' → FstTo w1 g st f nm b (.returned (.int .i64 0)) w' := fun h0 w' g' hd ht => by
    have hK : svK (svE st f nm b) = 5 := by rw [← HE.out]; exact svK_all E h0
    refine ⟨by unfold fstE; rw [hK]; rfl, g', ?_, ht⟩
    unfold fstS; rw [hK]; exact hd
  have HDone := Lib.hid hdone
  have HAll := Lib.hid hall
  clear hdone hall
  go_enter Tryz.func66, Tryz.ntmps66
  go_wp2_with fail
  go_loopw [8] (fun i wr => ∃ k : Nat, k ≤ 5 ∧ i = .int .i64 (k : Int) ∧ Hid (∀ j, j < k → E j = 0) ∧ ∃ g', Hid (DiskAt wr g' (svS st f nm b k)) ∧ Hid (Gh.To w1 g g' wr)) (fun i _ => 5 - (intOf i).toNat)
  case atStart => exact ⟨0, by decide, rfl, Lib.hid (fun j hj => absurd hj (Nat.not_lt_zero j)), g, HD, Lib.hid (Gh.To.refl _ _)⟩
  case round =>
    obtain ⟨k, hk, rfl, HZ, g', HDr, HTr⟩ := hrel
    obtain ⟨k0, k1, k2, k3, k4⟩ := KL.out wr g' HTr.out
    rcases (show k = 0 ∨ k = 1 ∨ k = 2 ∨ k = 3 ∨ k = 4 ∨ k = 5 by omega) with rfl | rfl | rfl | rfl | rfl | rfl
    · have HC := Lib.hid (H0.out wr g' HDr.out HTr.out)
      obtain ⟨ek, hek⟩ : ∃ ek, ek = E 0 := ⟨_, rfl⟩
      rw [← hek] at HC
      have HEK := Lib.hid hek
      clear hek
      by_cases hz : ek = 0
      · subst hz
        go_wp2_with fail
        refine HC.out.mono ?_
        rintro e w3 ⟨rfl, g3, hd3, ht3⟩
        have H3 := Lib.hid hd3
        have T3 := Lib.hid (HTr.out.trans ht3)
        clear hd3 ht3
        go_wp2_with fail
        exact ⟨⟨1, by decide, rfl, Lib.hid (fun j hj => by
          rcases Nat.lt_or_ge j 0 with h1 | h1
          · exact HZ.out j h1
          · obtain rfl : j = 0 := by omega
            exact HEK.out.symm), g3, H3, T3⟩, by decide⟩
      · have hz2 : (ek != 0) = true := by simpa using hz
        have HNZ := Lib.hid hz
        clear hz
        go_wp2_with fail
        refine HC.out.mono ?_
        rintro e w3 ⟨rfl, g3, hd3, ht3⟩
        have H3 := Lib.hid hd3
        have T3 := Lib.hid (HTr.out.trans ht3)
        clear hd3 ht3
        go_wp2_with fail
        go_ret
        rw [HEK.out]
        exact HDone.out 0 (by decide) HZ.out (by rw [← HEK.out]; exact HNZ.out) _ g3 H3.out T3.out
    · have HC := Lib.hid (H1.out wr g' HDr.out HTr.out)
      obtain ⟨ek, hek⟩ : ∃ ek, ek = E 1 := ⟨_, rfl⟩
      rw [← hek] at HC
      have HEK := Lib.hid hek
      clear hek
      by_cases hz : ek = 0
      · subst hz
        go_wp2_with fail
        refine HC.out.mono ?_
        rintro e w3 ⟨rfl, g3, hd3, ht3⟩
        have H3 := Lib.hid hd3
        have T3 := Lib.hid (HTr.out.trans ht3)
        clear hd3 ht3
        go_wp2_with fail
        exact ⟨⟨2, by decide, rfl, Lib.hid (fun j hj => by
          rcases Nat.lt_or_ge j 1 with h1 | h1
          · exact HZ.out j h1
          · obtain rfl : j = 1 := by omega
            exact HEK.out.symm), g3, H3, T3⟩, by decide⟩
      · have hz2 : (ek != 0) = true := by simpa using hz
        have HNZ := Lib.hid hz
        clear hz
        go_wp2_with fail
        refine HC.out.mono ?_
        rintro e w3 ⟨rfl, g3, hd3, ht3⟩
        have H3 := Lib.hid hd3
        have T3 := Lib.hid (HTr.out.trans ht3)
        clear hd3 ht3
        go_wp2_with fail
        go_ret
        rw [HEK.out]
        exact HDone.out 1 (by decide) HZ.out (by rw [← HEK.out]; exact HNZ.out) _ g3 H3.out T3.out
    · have HC := Lib.hid (H2.out wr g' HDr.out HTr.out)
      obtain ⟨ek, hek⟩ : ∃ ek, ek = E 2 := ⟨_, rfl⟩
      rw [← hek] at HC
      have HEK := Lib.hid hek
      clear hek
      by_cases hz : ek = 0
      · subst hz
        go_wp2_with fail
        refine HC.out.mono ?_
        rintro e w3 ⟨rfl, g3, hd3, ht3⟩
        have H3 := Lib.hid hd3
        have T3 := Lib.hid (HTr.out.trans ht3)
        clear hd3 ht3
        go_wp2_with fail
        exact ⟨⟨3, by decide, rfl, Lib.hid (fun j hj => by
          rcases Nat.lt_or_ge j 2 with h1 | h1
          · exact HZ.out j h1
          · obtain rfl : j = 2 := by omega
            exact HEK.out.symm), g3, H3, T3⟩, by decide⟩
      · have hz2 : (ek != 0) = true := by simpa using hz
        have HNZ := Lib.hid hz
        clear hz
        go_wp2_with fail
        refine HC.out.mono ?_
        rintro e w3 ⟨rfl, g3, hd3, ht3⟩
        have H3 := Lib.hid hd3
        have T3 := Lib.hid (HTr.out.trans ht3)
        clear hd3 ht3
        go_wp2_with fail
        go_ret
        rw [HEK.out]
        exact HDone.out 2 (by decide) HZ.out (by rw [← HEK.out]; exact HNZ.out) _ g3 H3.out T3.out
    · have HC := Lib.hid (H3.out wr g' HDr.out HTr.out)
      obtain ⟨ek, hek⟩ : ∃ ek, ek = E 3 := ⟨_, rfl⟩
      rw [← hek] at HC
      have HEK := Lib.hid hek
      clear hek
      by_cases hz : ek = 0
      · subst hz
        go_wp2_with fail
        refine HC.out.mono ?_
        rintro e w3 ⟨rfl, g3, hd3, ht3⟩
        have H3 := Lib.hid hd3
        have T3 := Lib.hid (HTr.out.trans ht3)
        clear hd3 ht3
        go_wp2_with fail
        exact ⟨⟨4, by decide, rfl, Lib.hid (fun j hj => by
          rcases Nat.lt_or_ge j 3 with h1 | h1
          · exact HZ.out j h1
          · obtain rfl : j = 3 := by omega
            exact HEK.out.symm), g3, H3, T3⟩, by decide⟩
      · have hz2 : (ek != 0) = true := by simpa using hz
        have HNZ := Lib.hid hz
        clear hz
        go_wp2_with fail
        refine HC.out.mono ?_
        rintro e w3 ⟨rfl, g3, hd3, ht3⟩
        have H3 := Lib.hid hd3
        have T3 := Lib.hid (HTr.out.trans ht3)
        clear hd3 ht3
        go_wp2_with fail
        go_ret
        rw [HEK.out]
        exact HDone.out 3 (by decide) HZ.out (by rw [← HEK.out]; exact HNZ.out) _ g3 H3.out T3.out
    · have HC := Lib.hid (H4.out wr g' HDr.out HTr.out)
      obtain ⟨ek, hek⟩ : ∃ ek, ek = E 4 := ⟨_, rfl⟩
      rw [← hek] at HC
      have HEK := Lib.hid hek
      clear hek
      by_cases hz : ek = 0
      · subst hz
        go_wp2_with fail
        refine HC.out.mono ?_
        rintro e w3 ⟨rfl, g3, hd3, ht3⟩
        have H3 := Lib.hid hd3
        have T3 := Lib.hid (HTr.out.trans ht3)
        clear hd3 ht3
        go_wp2_with fail
        exact ⟨⟨5, by decide, rfl, Lib.hid (fun j hj => by
          rcases Nat.lt_or_ge j 4 with h1 | h1
          · exact HZ.out j h1
          · obtain rfl : j = 4 := by omega
            exact HEK.out.symm), g3, H3, T3⟩, by decide⟩
      · have hz2 : (ek != 0) = true := by simpa using hz
        have HNZ := Lib.hid hz
        clear hz
        go_wp2_with fail
        refine HC.out.mono ?_
        rintro e w3 ⟨rfl, g3, hd3, ht3⟩
        have H3 := Lib.hid hd3
        have T3 := Lib.hid (HTr.out.trans ht3)
        clear hd3 ht3
        go_wp2_with fail
        go_ret
        rw [HEK.out]
        exact HDone.out 4 (by decide) HZ.out (by rw [← HEK.out]; exact HNZ.out) _ g3 H3.out T3.out
    · go_wp2_with fail
      go_ret
      exact HAll.out HZ.out _ g' HDr.out HTr.out
def freshB (nm : ByteArray) : ByteArray := nm ++ tailB
def SaveTo (g : Gh) (st : St) (nm s : ByteArray) (w : World) (e : Ending) (w' : World) : Prop := OpTo g (saveE st (freshB nm) nm ⟨(Cr.sealB s).toArray⟩) (saveS st (freshB nm) nm ⟨(Cr.sealB s).toArray⟩) w e w'
set_option maxHeartbeats 2000000 in
set_option maxRecDepth 100000 in
theorem save_any {n : Nat} {g : Gh} {st : St} {w : World} (nm s : ByteArray) (h : DiskAt w g st) (hg : Good n st) (hn : n ≤ 900000) (hm : nm.size ≤ 1000) (hs : s.size ≤ 1000000) :
    Calls Tryz.prog 34 #[.pointer (some ⟨g.d, 0, none⟩), .string nm, .string s] w (SaveTo g st nm s w) := by
  obtain ⟨b, hb⟩ : ∃ b : ByteArray, b = ⟨(Cr.sealB s).toArray⟩ := ⟨_, rfl⟩
  obtain ⟨f, hf⟩ : ∃ f, f = freshB nm := ⟨_, rfl⟩
  have hfs : f.size ≤ 1004 := by rw [hf]; unfold freshB; rw [ByteArray.size_append]; have : tailB.size = 4 := rfl; omega
  obtain ⟨B, hB⟩ : ∃ B, B = w.heap.size := ⟨_, rfl⟩
  have hb1 := heap_alloc_new w (.cells #[.pointer (some ⟨g.d, 0, none⟩)] 24)
  obtain ⟨wa, hwa⟩ : ∃ wa, wa = w.alloc (.cells #[.pointer (some ⟨g.d, 0, none⟩)] 24) := ⟨_, rfl⟩
  have za : wa.heap.size = B + 1 := by rw [hwa, hB, World.size_alloc]
  have hb2 := heap_alloc_new wa (.cells #[.string nm] 9)
  obtain ⟨wb, hwb⟩ : ∃ wb, wb = wa.alloc (.cells #[.string nm] 9) := ⟨_, rfl⟩
  have zb : wb.heap.size = B + 1 + 1 := by rw [hwb, World.size_alloc, za]
  have hb3 := heap_alloc_new wb (.cells #[.string s] 9)
  obtain ⟨wc, hwc⟩ : ∃ wc, wc = wb.alloc (.cells #[.string s] 9) := ⟨_, rfl⟩
  have zc : wc.heap.size = B + 1 + 1 + 1 := by rw [hwc, World.size_alloc, zb]
  have hb4 := heap_alloc_new wc (.cells #[.string f] 9)
  obtain ⟨w1, hw1⟩ : ∃ w1, w1 = wc.alloc (.cells #[.string f] 9) := ⟨_, rfl⟩
  have zd : w1.heap.size = B + 1 + 1 + 1 + 1 := by rw [hw1, World.size_alloc, zc]
  have hb5 := heap_alloc_new w1 (.cells (fiveV B (B + 1) (B + 1 + 1) (B + 1 + 1 + 1)) 40)
  obtain ⟨w2, hw2⟩ : ∃ w2, w2 = w1.alloc (.cells (fiveV B (B + 1) (B + 1 + 1) (B + 1 + 1 + 1)) 40) := ⟨_, rfl⟩
  have zw : w.heap.size = B := hB.symm
  rw [← hwa, zw] at hb1
  rw [← hwb, za] at hb2
  rw [← hwc, zb] at hb3
  rw [← hw1, zc] at hb4
  rw [← hw2, zd] at hb5
  have o5 : ∀ k, k < B + 1 + 1 + 1 + 1 → w2.heap[k]? = w1.heap[k]? := fun k hk => by rw [hw2]; exact heap_alloc_old _ _ (by omega)
  have o4 : ∀ k, k < B + 1 + 1 + 1 → w1.heap[k]? = wc.heap[k]? := fun k hk => by rw [hw1]; exact heap_alloc_old _ _ (by omega)
  have o3 : ∀ k, k < B + 1 + 1 → wc.heap[k]? = wb.heap[k]? := fun k hk => by rw [hwc]; exact heap_alloc_old _ _ (by omega)
  have o2 : ∀ k, k < B + 1 → wb.heap[k]? = wa.heap[k]? := fun k hk => by rw [hwb]; exact heap_alloc_old _ _ (by omega)
  have c1 : w2.heap[B]? = some (.cells #[.pointer (some ⟨g.d, 0, none⟩)] 24 (0, 0)) := by rw [o5 _ (by omega), o4 _ (by omega), o3 _ (by omega), o2 _ (by omega)]; exact hb1
  have c2 : w2.heap[B + 1]? = some (.cells #[.string nm] 9 (0, 0)) := by rw [o5 _ (by omega), o4 _ (by omega), o3 _ (by omega)]; exact hb2
  have c3 : w2.heap[B + 1 + 1]? = some (.cells #[.string s] 9 (0, 0)) := by rw [o5 _ (by omega), o4 _ (by omega)]; exact hb3
  have c4 : w2.heap[B + 1 + 1 + 1]? = some (.cells #[.string f] 9 (0, 0)) := by rw [o5 _ (by omega)]; exact hb4
  have b1 : Below B w wa := by rw [hwa]; exact (Below.refl B w).alloc (by omega) _
  have b2 : Below B w wb := by rw [hwb]; exact b1.alloc (by omega) _
  have b3 : Below B w wc := by rw [hwc]; exact b2.alloc (by omega) _
  have b4 : Below B w w1 := by rw [hw1]; exact b3.alloc (by omega) _
  have hbel : Below B w w2 := by rw [hw2]; exact b4.alloc (by omega) _
  have hnot : ∀ k, B ≤ k → k ∉ g.fp := fun k hk hx => by have := h.lt k hx; omega
  have hch : Chg (fun _ => False) w w2 := Chg.of_below (hB ▸ hbel)
  have hFI := first_any f nm s b B (B + 1) (B + 1 + 1) (B + 1 + 1 + 1) (B + 1 + 1 + 1 + 1) hb (h.new hch) hg hn (by unfold maxLen; omega) (by unfold maxLen; omega) hs (by simp [World.cell?, c1]) (by simp [World.cell?, c2]) (by simp [World.cell?, c3]) (by simp [World.cell?, c4]) ⟨_, hb5⟩ (hnot _ (by omega)) (hnot _ (by omega)) (hnot _ (by omega)) (hnot _ (by omega)) (hnot _ (by omega))
  have k1 : w2.cell? ⟨B, 0, none⟩ = some (.pointer (some ⟨g.d, 0, none⟩)) := by simp [World.cell?, c1]
  have k4 : w2.cell? ⟨B + 1 + 1 + 1, 0, none⟩ = some (.string f) := by simp [World.cell?, c4]
  have hkeep : ∀ (W : World) (g' : Gh), Gh.To w2 g g' W → W.cell? ⟨B, 0, none⟩ = some (.pointer (some ⟨g.d, 0, none⟩)) ∧ W.cell? ⟨B + 1 + 1 + 1, 0, none⟩ = some (.string f) := fun W g' t => ⟨t.chg.cell k1 (hnot B (Nat.le_refl _)), t.chg.cell k4 (hnot (B + 1 + 1 + 1) (by omega))⟩
  have hgood : Good (n + 2) (fstS st f nm b) := svS_good hg f nm b _
  have hrem : ∀ (W : World) (g' : Gh), DiskAt W g' (fstS st f nm b) → g'.d = g.d → Calls Tryz.prog 68 #[.pointer (some ⟨g.d, 0, none⟩), .string f] W (OpTo g' (remE (fstS st f nm b) f) (remS (fstS st f nm b) f) W) := fun W g' hd hg' => by
    have := rem_any f hd hgood (by unfold maxLen; omega)
    rw [hg'] at this
    exact this
  have hE : saveE st f nm b = if fstE st f nm b = 0 then 0 else if remE (fstS st f nm b) f ≠ 0 then remE (fstS st f nm b) f else fstE st f nm b := rfl
  have hS : saveS st f nm b = if fstE st f nm b = 0 then fstS st f nm b else remS (fstS st f nm b) f := rfl
  have hto : Gh.To w g g w2 := Gh.To.new g hch
  rw [show SaveTo g st nm s w = OpTo g (saveE st f nm b) (saveS st f nm b) w from by unfold SaveTo; rw [← hf, ← hb]]
  rw [hE, hS]
  unfold FstTo at hFI
  obtain ⟨e1, he1⟩ : ∃ e1, e1 = fstE st f nm b := ⟨_, rfl⟩
  obtain ⟨s1, hs1⟩ : ∃ s1, s1 = fstS st f nm b := ⟨_, rfl⟩
  rw [← he1, ← hs1] at hFI ⊢
  rw [← hs1] at hrem
  obtain ⟨e2, he2⟩ : ∃ e2, e2 = remE s1 f := ⟨_, rfl⟩
  obtain ⟨s2, hs2⟩ : ∃ s2, s2 = remS s1 f := ⟨_, rfl⟩
  rw [← he2, ← hs2] at hrem ⊢
  have hff : nm ++ ⟨#[46, 110, 101, 119]⟩ = f := hf.symm
  rw [hw2] at hFI
  unfold fiveV at hFI
  have HFI := Lib.hid hFI
  have HFF := Lib.hid hff
  have HWA := Lib.hid hwa
  have HWB := Lib.hid hwb
  have HWC := Lib.hid hwc
  have HW1 := Lib.hid hw1
  have HW2 := Lib.hid hw2
  have HZ := Lib.hid zd
  have HKEEP := Lib.hid hkeep
  have HREM := Lib.hid hrem
  have HTO := Lib.hid hto
  have HB := Lib.hid hB
  clear hFI hff hwa hwb hwc hw1 hw2 hkeep hrem hto zw za zb zc zd hb1 hb2 hb3 hb4 hb5 o5 o4 o3 o2 c1 c2 c3 c4 b1 b2 b3 b4 hbel hnot hch k1 k4 hgood hE hS he1 hs1 he2 hs2 h hg hf hb hB
  rw [HW2.out] at HKEEP
  have HTO2 : Hid (Gh.To w g g (w1.alloc (.cells (fiveV B (B + 1) (B + 1 + 1) (B + 1 + 1 + 1)) 40))) := Lib.hid (HW2.out ▸ HTO.out)
  clear HTO HW2
  by_cases hz : e1 = 0
  · subst hz
    rw [if_pos rfl, if_pos rfl]
    go_enter Tryz.func34, Tryz.ntmps34
    go_upto_region 4 with fail
    rw [HFF.out, ← HWA.out, ← HWB.out, ← HWC.out, ← HW1.out, ← HB.out]
    go_wp2_with fail
    rw [HZ.out]
    refine HFI.out.mono ?_
    rintro e w3 ⟨rfl, g3, hd3, ht3⟩
    have HR : Hid (DiskAt w3 g3 s1 ∧ Gh.To w g g3 w3) := Lib.hid ⟨hd3, HTO2.out.trans ht3⟩
    clear hd3 ht3
    go_wp2_with fail
    go_ret
    exact ⟨rfl, g3, HR.out.1, HR.out.2⟩
  · have hz2 : (e1 == 0) = false := by simpa using hz
    rw [if_neg hz, if_neg hz]
    clear hz
    by_cases hy : e2 = 0
    · subst hy
      rw [if_neg (by simp)]
      go_enter Tryz.func34, Tryz.ntmps34
      go_upto_region 4 with fail
      rw [HFF.out, ← HWA.out, ← HWB.out, ← HWC.out, ← HW1.out, ← HB.out]
      go_wp2_with fail
      rw [HZ.out]
      refine HFI.out.mono ?_
      rintro e w3 ⟨rfl, g3, hd3, ht3⟩
      obtain ⟨q1, q2⟩ := HKEEP.out w3 g3 ht3
      have HRR := Lib.hid (HREM.out w3 g3 hd3 ht3.d)
      have HT3 := Lib.hid (HTO2.out.trans ht3)
      clear hd3 ht3
      go_wp2_with fail
      refine HRR.out.mono ?_
      rintro e w4 ⟨rfl, g4, hd4, ht4⟩
      have HR : Hid (DiskAt w4 g4 s2 ∧ Gh.To w g g4 w4) := Lib.hid ⟨hd4, HT3.out.trans ht4⟩
      clear hd4 ht4
      go_wp2_with fail
      go_ret
      exact ⟨rfl, g4, HR.out.1, HR.out.2⟩
    · have hy2 : (e2 != 0) = true := by simpa using hy
      rw [if_pos hy]
      clear hy
      go_enter Tryz.func34, Tryz.ntmps34
      go_upto_region 4 with fail
      rw [HFF.out, ← HWA.out, ← HWB.out, ← HWC.out, ← HW1.out, ← HB.out]
      go_wp2_with fail
      rw [HZ.out]
      refine HFI.out.mono ?_
      rintro e w3 ⟨rfl, g3, hd3, ht3⟩
      obtain ⟨q1, q2⟩ := HKEEP.out w3 g3 ht3
      have HRR := Lib.hid (HREM.out w3 g3 hd3 ht3.d)
      have HT3 := Lib.hid (HTO2.out.trans ht3)
      clear hd3 ht3
      go_wp2_with fail
      refine HRR.out.mono ?_
      rintro e w4 ⟨rfl, g4, hd4, ht4⟩
      have HR : Hid (DiskAt w4 g4 s2 ∧ Gh.To w g g4 w4) := Lib.hid ⟨hd4, HT3.out.trans ht4⟩
      clear hd4 ht4
      go_wp2_with fail
      go_ret
      exact ⟨rfl, g4, HR.out.1, HR.out.2⟩
def loadR (st : St) (nm : ByteArray) : ByteArray × Bool × Int :=
  if st.down = true then (⟨#[]⟩, false, 8) else match st.find nm with
  | none => (⟨#[]⟩, false, 0)
  | some f => if Cr.openB ⟨f.bytes.toArray⟩ = true then (Cr.openS ⟨f.bytes.toArray⟩, true, 0) else (⟨#[]⟩, false, 4)
def LoadTo (st : St) (nm : ByteArray) (w : World) (e : Ending) (w' : World) : Prop := e = .returned (.tuple #[.string (loadR st nm).1, .bool (loadR st nm).2.1, .int .i64 (loadR st nm).2.2]) ∧ Below w.heap.size w w'
theorem load_any {g : Gh} {st : St} {w : World} (nm : ByteArray) (h : DiskAt w g st) (hm : nm.size ≤ maxLen) (hs : ∀ f, st.find nm = some f → f.bytes.length ≤ 1000000) :
    Calls Tryz.prog 27 #[.pointer (some ⟨g.d, 0, none⟩), .string nm] w (LoadTo st nm w) := by
  have hA := all_any g st nm w h hm
  unfold AllTo at hA
  unfold LoadTo
  obtain ⟨r, hr⟩ : ∃ r, r = loadR st nm := ⟨_, rfl⟩
  rw [← hr]
  unfold loadR at hr
  unfold allE at hA
  cases hd : st.down with
  | true =>
    rw [if_pos hd] at hr hA
    subst hr
    have HA := Lib.hid hA
    clear hA h hs hd
    go_enter Tryz.func27, Tryz.ntmps27
    go_wp2_with fail
    refine HA.out.mono ?_
    rintro e w1 ⟨rfl, hb1⟩
    have HB1 := Lib.hid hb1
    clear hb1
    go_wp2_with fail
    go_ret3
    exact ⟨rfl, HB1.out⟩
  | false =>
    rw [if_neg (by rw [hd]; simp)] at hr hA
    cases hf : st.find nm with
    | none =>
      rw [hf] at hr hA
      subst hr
      have HA := Lib.hid hA
      clear hA h hs hd hf
      go_enter Tryz.func27, Tryz.ntmps27
      go_wp2_with fail
      refine HA.out.mono ?_
      rintro e w1 ⟨rfl, hb1⟩
      have HB1 := Lib.hid hb1
      clear hb1
      go_wp2_with fail
      go_ret3
      exact ⟨rfl, HB1.out⟩
    | some F =>
      rw [hf] at hr hA
      have hl := hs F hf
      simp only at hr hA
      obtain ⟨s, hs2⟩ : ∃ s : ByteArray, s = ⟨F.bytes.toArray⟩ := ⟨_, rfl⟩
      have hz : s.size ≤ 1000000 := by rw [hs2]; show F.bytes.toArray.size ≤ _; rw [List.size_toArray]; exact hl
      rw [← hs2] at hr hA
      have HO : Hid (∀ W t, Cr.Tab W t → Calls Tryz.prog 54 #[.pointer (some ⟨t, 0, none⟩), .string s] W fun e w' => e = .returned (.tuple #[.string (Cr.openS s), .bool (Cr.openB s)]) ∧ Below W.heap.size W w') := Lib.hid (fun W t ht => Cr.open_any t s W ht hz)
      have HN : Hid (∀ W', Calls Tryz.prog 53 #[] W' fun e w' => e = .returned (.pointer (some ⟨W'.heap.size, 0, none⟩)) ∧ Cr.Tab w' W'.heap.size ∧ Below W'.heap.size W' w') := Lib.hid (fun W' => Cr.new_any W')
      have HA := Lib.hid hA
      clear hA h hs hd hf hl hs2 hz
      cases ho : Cr.openB s with
      | true =>
        rw [ho, if_pos rfl] at hr
        rw [ho] at HO
        subst hr
        dsimp only
        clear ho
        obtain ⟨t, ht⟩ : ∃ t, t = Cr.openS s := ⟨_, rfl⟩
        rw [← ht] at HO ⊢
        clear ht
        go_enter Tryz.func27, Tryz.ntmps27
        go_wp2_with fail
        refine HA.out.mono ?_
        rintro e w1 ⟨rfl, hb1⟩
        have HB1 := Lib.hid hb1
        clear hb1
        go_wp2_with fail
        refine (HN.out _).mono ?_
        rintro e w2 ⟨rfl, ht2, hb2⟩
        have HB2 := Lib.hid (ubelow_on hb2 HB1.out (Nat.le_refl _))
        have HT2 := Lib.hid ht2
        clear hb2 ht2
        go_wp2_with fail
        refine (HO.out _ _ HT2.out).mono ?_
        rintro e w3 ⟨rfl, hb3⟩
        have HB3 := Lib.hid (ubelow_on hb3 HB2.out (Nat.le_refl _))
        clear hb3
        go_wp2_with fail
        go_ret3
        exact ⟨rfl, HB3.out⟩
      | false =>
        rw [ho, if_neg (by simp)] at hr
        rw [ho] at HO
        subst hr
        dsimp only
        clear ho
        obtain ⟨t, ht⟩ : ∃ t, t = Cr.openS s := ⟨_, rfl⟩
        rw [← ht] at HO
        clear ht
        go_enter Tryz.func27, Tryz.ntmps27
        go_wp2_with fail
        refine HA.out.mono ?_
        rintro e w1 ⟨rfl, hb1⟩
        have HB1 := Lib.hid hb1
        clear hb1
        go_wp2_with fail
        refine (HN.out _).mono ?_
        rintro e w2 ⟨rfl, ht2, hb2⟩
        have HB2 := Lib.hid (ubelow_on hb2 HB1.out (Nat.le_refl _))
        have HT2 := Lib.hid ht2
        clear hb2 ht2
        go_wp2_with fail
        refine (HO.out _ _ HT2.out).mono ?_
        rintro e w3 ⟨rfl, hb3⟩
        have HB3 := Lib.hid (ubelow_on hb3 HB2.out (Nat.le_refl _))
        clear hb3
        go_wp2_with fail
        go_ret3
        exact ⟨rfl, HB3.out⟩
end Go.Proofs.YtemimmnamajooaaGreat
