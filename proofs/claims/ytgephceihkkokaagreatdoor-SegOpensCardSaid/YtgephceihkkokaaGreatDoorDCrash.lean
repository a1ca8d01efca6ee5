/-
  The contract of Crash.
-/
import Derived.Test.YtgephceihkkokaaGreatDoorDCrashP
namespace Go.Proofs.YtgephceihkkokaaGreatDoor
open Go.RowKit Go.Deep
attribute [local go_sem] fr_opt

/-- Behind waiting. -/
def WaitG (g : Gh) (w : World) (v : Value) (w' : World) : Prop := ∃ l, l.Perm (waitsOf g.es) ∧ Sorted l ∧ WaitsAt w' w.heap.size v l ∧ Below w.heap.size w w'
theorem WaitG.cell {g : Gh} {w w' : World} {v : Value} (h : WaitG g w v w') {p : Addr} {u : Value} (hp : w.cell? p = some u) : w'.cell? p = some u := by
  obtain ⟨l, _, _, _, hb⟩ := h
  exact (hb.cell (p := p) (World.block_lt_of_cell? _ _ hp)).trans hp
/-- Behind kept. -/
def KeptG (g : Gh) (bs : List Bool) (lack : Int) (w : World) (v : Value) (w' : World) : Prop := ∃ l, l.Perm (waitsOf g.es) ∧ Sorted l ∧ WaitsAt w' w.heap.size v (cutLast (keepL l bs) lack) ∧ Below w.heap.size w w'
def KeptL (g : Gh) (bs : List Bool) (lack : Int) (w : World) (v n : Value) (w' : World) : Prop := ∃ l, l.Perm (waitsOf g.es) ∧ Sorted l ∧ WaitsAt w' w.heap.size v (cutLast (keepL l bs) lack) ∧ Below w.heap.size w w' ∧ n = .int .i64 ((cutLast (keepL l bs) lack).length : Nat)
theorem PutW.other {w w' : World} {v : Value} {ys : List UInt8} {v' : Value} (h : PutW w v ys v' w') {b o : Nat} {u : Value} (hn : v.ownBlock ≠ some b) (hc : w.cell? ⟨b, o, none⟩ = some u) : w'.cell? ⟨b, o, none⟩ = some u :=
  h.2.1.cell hc (fun e => hn e.symm)
theorem KeptG.form {g : Gh} {bs : List Bool} {lack : Int} {w w' : World} {v : Value} (h : KeptG g bs lack w v w') : ∃ (p : Option Addr) (n c : Nat), v = .slice p n c ∧ KeptL g bs lack w (.slice p n c) (.int .i64 n) w' := by
  obtain ⟨l, h1, h2, h3, h4⟩ := h
  have hs : ∃ p c, v = .slice p (cutLast (keepL l bs) lack).length c := by
    rcases h3.form with ⟨h5, h6⟩ | ⟨gg, cap, h5, _⟩
    · exact ⟨none, 0, by rw [h5, h6]; rfl⟩
    · exact ⟨_, _, h5⟩
  obtain ⟨p, c, rfl⟩ := hs
  exact ⟨p, _, c, rfl, l, h1, h2, h3, h4, rfl⟩
theorem kept_to {g : Gh} {bs : List Bool} {lack : Int} {w w' : World} {v vk : Value} (hvk : BoolsOf w vk bs) (h : WaitG g w v w') (hb : BoolsOf w' vk bs) (hw : (waitsOf g.es).length ≤ 1099511627776) (hbs : bs.length ≤ 1099511627776) (hz : ∀ z ∈ waitsOf g.es, z.x.s.size ≤ 1099511627776) :
    Calls Tryz.prog 59 #[v, .agg #[vk, .int .i64 lack]] w' fun e w'' => ∃ v', e = .returned v' ∧ KeptG g bs lack w v' w'' := by
  obtain ⟨l, h1, h2, h3, h4⟩ := h
  refine (kept_any v vk l bs lack w' _ h3 hb (by rw [h1.length_eq]; exact hw) hbs (fun z hz' => hz z (h1.mem_iff.1 hz'))).mono ?_
  rintro e w2 ⟨v', he, hv, hbl⟩
  exact ⟨v', he, l, h1, h2, hv.base h4.size, h4.trans (hbl.mono h4.size)⟩

def crashS (st : St) (sk : List Sk) : St := ⟨false, false, 0, st.cap, (sk.map fun p => (loseF p.2.2).bytes.length).sum, st.turn, sk.map fun p => (p.1, loseF p.2.2)⟩
def CrashTo (g : Gh) (st : St) (bs : List Bool) (lack : Int) (w : World) (e : Ending) (w' : World) : Prop :=
  e = .returned (.tuple #[]) ∧ ∃ l g', l.Perm (waitsOf g.es) ∧ Sorted l ∧ DiskAt w' g' (crashS st (imgs (g.es.map skel) (cutLast (keepL l bs) lack))) ∧ Gh.To w g g' w'

set_option maxHeartbeats 4000000 in
set_option maxRecDepth 100000 in
theorem crash_any (g : Gh) (st : St) (vk : Value) (bs : List Bool) (lack : Int) (w : World) (h : DiskAt w g st) (hvb : BoolsOf w vk bs) (hw : st.waits ≤ 1099511627776) (hbs : bs.length ≤ 1099511627776) (hin : AllIn st 1099511627776)
    (hsum : ∀ l, l.Perm (waitsOf g.es) → Sorted l → ((imgs (g.es.map skel) (cutLast (keepL l bs) lack)).map fun p => (loseF p.2.2).bytes.length).sum ≤ 1099511627776) :
    Calls Tryz.prog 28 #[.pointer (some ⟨g.d, 0, none⟩), .agg #[vk, .int .i64 lack]] w (CrashTo g st bs lack w) := by
  have hw2 : (waitsOf g.es).length ≤ 1099511627776 := by rw [waitsOf_length, waits_eq h]; exact hw
  have hzz : ∀ z ∈ waitsOf g.es, z.x.s.size ≤ 1099511627776 := fun z hz => by
    obtain ⟨e, he, _, hx⟩ := waits_mem hz
    have h1 : nf e ∈ st.fs := by rw [← h.fs]; exact List.mem_map_of_mem he
    have h2 := (hin _ h1).2.2.2 z.x hx
    omega
  obtain ⟨R, hR⟩ : ∃ R, R = w.heap.size := ⟨_, rfl⟩
  have HR := Lib.hid hR
  have HG := Lib.hid h
  have HIN := Lib.hid hin
  have HZZ := Lib.hid hzz
  have HVB0 := Lib.hid hvb
  have HSUM := Lib.hid hsum
  clear h hin hzz hvb hsum
  obtain ⟨ak, nk, ck, rfl⟩ : ∃ a n c, vk = .slice a n c := by
    obtain ⟨a, c, h1, _⟩ := HVB0.out
    exact ⟨a, _, c, h1⟩
  clear hR
  go_enter Tryz.func28, Tryz.ntmps28
  go_wp2_with fail
  rename_i Kc hc
  rw [← HR.out]
  have b0 : (w.alloc (.cells #[.slice ak nk ck, .int .i64 lack] 61)).cell? ⟨R, 0, none⟩ = some (.slice ak nk ck) := by rw [HR.out]; simp
  have b1 : (w.alloc (.cells #[.slice ak nk ck, .int .i64 lack] 61)).cell? ⟨R, 1, none⟩ = some (.int .i64 lack) := by rw [HR.out]; simp
  have hnew : Chg (fun _ => False) w (w.alloc (.cells #[.slice ak nk ck, .int .i64 lack] 61)) := Chg.alloc _ (Chg.refl _ _) _
  have hszz : (w.alloc (.cells #[.slice ak nk ck, .int .i64 lack] 61)).heap.size = R + 1 := by rw [HR.out]; simp
  generalize w.alloc (.cells #[.slice ak nk ck, .int .i64 lack] 61) = W0 at *
  have HD : Hid (DiskAt W0.drew g st) := (HG.out.new hnew).drew
  have HVB : Hid (BoolsOf W0 (.slice ak nk ck) bs) := HVB0.out.chg hnew (fun _ _ _ _ _ x => x)
  have HBO : Hid (∀ {v : Value} {w' : World}, WaitG g W0 v w' → BoolsOf w' (.slice ak nk ck) bs) := fun {v w'} hg => by
    obtain ⟨l, _, _, _, hb⟩ := hg
    exact HVB.out.chg (Chg.of_below (S := fun _ => False) hb) (fun _ _ _ _ _ x => x)
  have HNEW := Lib.hid hnew
  have HSZ := Lib.hid hszz
  clear hnew hszz
  refine region_ph (n := 66) 12 [1, 3, 4] rfl rfl (by kernel_rfl) (by kernel_rfl) (by kernel_rfl) (fun i v => match i with | 0 => v = .pointer (some ⟨g.d, 0, none⟩) | 2 => v = .agg #[.slice ak nk ck, .int .i64 lack] | 5 => v = .int .i64 0 | _ => True)
    (fun p f w' => match p with | 0 => W0.drew = w' | 1 => WaitG g W0 (f 11) w' | 2 => KeptG g bs lack W0 (f 13) w' | _ => KeptL g bs lack W0 (f 13) (f 14) w') ?_ ?_ ?_
  · exact rfl
  · simp only [AllAt]
    refine ⟨?_, ?_, ?_, ?_, ?_, ?_, trivial⟩
    · refine StepPh.reg rfl (by decide) (fun d hd => by cases hd; decide) ?_
      intro f w' p hG hup hdn hfr hp K hK
      have g0 : f 0 = .pointer (some ⟨g.d, 0, none⟩) := hfr 0 (by kernel_rfl)
      clear hfr hp hup hdn
      go_simp
      exact hK _ _ rfl hG
    · refine StepPh.wr 0 rfl (by decide) rfl (fun d hd => by cases hd; decide) (fun j hj => by omega) ?_
      intro f w' hG hfr hp K hK
      have g10 : f 10 = .pointer (some ⟨g.d, 0, none⟩) := hp 0 _ 10 rfl rfl (by kernel_rfl)
      clear hfr hp
      have hGe : W0.drew = w' := hG
      subst hGe
      go_simp
      refine (waiting_any g st W0.drew HD.out hw).mono ?_
      rintro en w1 ⟨v, l, rfl, h1, h2, h3, h4⟩
      exact hK _ _ (fun _ => trivial) ⟨l, h1, h2, h3, (Below.drew (Below.refl W0.heap.size W0)).trans h4⟩
    · refine StepPh.reg rfl (by decide) (fun d hd => by cases hd; decide) ?_
      intro f w' p hG hup hdn hfr hp K hK
      have g3 : f 3 = .pointer (some ⟨R, 0, none⟩) := hfr 3 (by kernel_rfl)
      have hpp : p = 0 ∨ p = 1 := by have := hdn 1 (by decide) (.inl (by kernel_rfl)); omega
      clear hfr hp hup hdn
      rcases hpp with rfl | rfl
      · have hGe : W0.drew = w' := hG
        subst hGe
        go_simp
        exact hK _ _ rfl hG
      · have hGw : WaitG g W0 (f 11) w' := hG
        have e0 := hGw.cell b0
        have e1 := hGw.cell b1
        go_simp
        exact hK _ _ rfl hG
    · refine StepPh.wr 1 rfl (by decide) rfl (fun d hd => by cases hd; decide) (fun j hj => by (obtain rfl : j = 0 := (by omega)); kernel_rfl) ?_
      intro f w' hG hfr hp K hK
      have g12 : f 12 = .agg #[.slice ak nk ck, .int .i64 lack] := hp 2 _ 12 rfl rfl (by kernel_rfl)
      clear hfr hp
      have hGw : WaitG g W0 (f 11) w' := hG
      go_simp
      refine (kept_to HVB.out hGw (HBO.out hGw) hw2 hbs HZZ.out).mono ?_
      rintro en w1 ⟨v, rfl, hkg⟩
      exact hK _ _ (fun _ => trivial) hkg
    · refine StepPh.wr 2 rfl (by decide) rfl (fun d hd => by cases hd; decide) (fun j hj => by rcases (by omega : j = 0 ∨ j = 1) with rfl | rfl <;> kernel_rfl) ?_
      intro f w' hG hfr hp K hK
      clear hfr hp
      have hGk : KeptG g bs lack W0 (f 13) w' := hG
      obtain ⟨p', n', c', g13, hkl⟩ := hGk.form
      go_simp
      exact hK _ _ (fun _ => trivial) (by show KeptL g bs lack W0 (f 13) _ w'; rw [g13]; exact hkl)
    · refine StepPh.reg rfl (by decide) (fun d hd => by cases hd; decide) ?_
      intro f w' p hG hup hdn hfr hp K hK
      clear hfr hp hup hdn
      go_simp
      exact hK _ _ rfl hG
  · intro f w1 hG hfr hR
    refine hc _ _ ?_
    have q13 : ∃ l, l.Perm (waitsOf g.es) ∧ Sorted l ∧ WaitsAt w1 W0.heap.size (f 13) (cutLast (keepL l bs) lack) ∧ Below W0.heap.size W0 w1 ∧ f 14 = .int .i64 ((cutLast (keepL l bs) lack).length : Nat) := hG
    have q15 : f 15 = .int .i64 0 := hR 5 _ 15 rfl rfl
    have q0 : f 0 = .pointer (some ⟨g.d, 0, none⟩) := hfr 0 (by kernel_rfl)
    have q1 : f 1 = .agg #[.slice ak nk ck, .int .i64 lack] := hfr 1 (by kernel_rfl)
    have q2 : f 2 = undef := hfr 2 (by kernel_rfl)
    have q3 : f 3 = .pointer (some ⟨R, 0, none⟩) := hfr 3 (by kernel_rfl)
    have q4 : f 4 = undef := hfr 4 (by kernel_rfl)
    have q5 : f 5 = undef := hfr 5 (by kernel_rfl)
    have q6 : f 6 = undef := hfr 6 (by kernel_rfl)
    have q7 : f 7 = undef := hfr 7 (by kernel_rfl)
    have q8 : f 8 = .pointer (some ⟨g.d, 0, none⟩) := hfr 8 (by kernel_rfl)
    have q9 : f 9 = .bool false := hfr 9 (by kernel_rfl)
    have q16 : f 16 = undef := hfr 16 (by kernel_rfl)
    have q17 : f 17 = undef := hfr 17 (by kernel_rfl)
    have q18 : f 18 = undef := hfr 18 (by kernel_rfl)
    have q19 : f 19 = undef := hfr 19 (by kernel_rfl)
    have q20 : f 20 = undef := hfr 20 (by kernel_rfl)
    have q21 : f 21 = undef := hfr 21 (by kernel_rfl)
    have q22 : f 22 = undef := hfr 22 (by kernel_rfl)
    have q23 : f 23 = undef := hfr 23 (by kernel_rfl)
    have q24 : f 24 = undef := hfr 24 (by kernel_rfl)
    have q25 : f 25 = undef := hfr 25 (by kernel_rfl)
    have q26 : f 26 = undef := hfr 26 (by kernel_rfl)
    have q27 : f 27 = undef := hfr 27 (by kernel_rfl)
    have q28 : f 28 = undef := hfr 28 (by kernel_rfl)
    have q29 : f 29 = undef := hfr 29 (by kernel_rfl)
    have q30 : f 30 = undef := hfr 30 (by kernel_rfl)
    have q31 : f 31 = undef := hfr 31 (by kernel_rfl)
    have q32 : f 32 = undef := hfr 32 (by kernel_rfl)
    have q33 : f 33 = undef := hfr 33 (by kernel_rfl)
    have q34 : f 34 = undef := hfr 34 (by kernel_rfl)
    have q35 : f 35 = undef := hfr 35 (by kernel_rfl)
    have q36 : f 36 = undef := hfr 36 (by kernel_rfl)
    have q37 : f 37 = undef := hfr 37 (by kernel_rfl)
    have q38 : f 38 = undef := hfr 38 (by kernel_rfl)
    have q39 : f 39 = undef := hfr 39 (by kernel_rfl)
    have q40 : f 40 = undef := hfr 40 (by kernel_rfl)
    have q41 : f 41 = undef := hfr 41 (by kernel_rfl)
    have q42 : f 42 = undef := hfr 42 (by kernel_rfl)
    have q43 : f 43 = undef := hfr 43 (by kernel_rfl)
    have q44 : f 44 = undef := hfr 44 (by kernel_rfl)
    have q45 : f 45 = undef := hfr 45 (by kernel_rfl)
    have q46 : f 46 = undef := hfr 46 (by kernel_rfl)
    have q47 : f 47 = undef := hfr 47 (by kernel_rfl)
    have q48 : f 48 = undef := hfr 48 (by kernel_rfl)
    have q49 : f 49 = undef := hfr 49 (by kernel_rfl)
    have q50 : f 50 = undef := hfr 50 (by kernel_rfl)
    have q51 : f 51 = undef := hfr 51 (by kernel_rfl)
    have q52 : f 52 = undef := hfr 52 (by kernel_rfl)
    have q53 : f 53 = undef := hfr 53 (by kernel_rfl)
    have q54 : f 54 = undef := hfr 54 (by kernel_rfl)
    have q55 : f 55 = undef := hfr 55 (by kernel_rfl)
    have q56 : f 56 = undef := hfr 56 (by kernel_rfl)
    have q57 : f 57 = undef := hfr 57 (by kernel_rfl)
    have q58 : f 58 = undef := hfr 58 (by kernel_rfl)
    have q59 : f 59 = undef := hfr 59 (by kernel_rfl)
    have q60 : f 60 = undef := hfr 60 (by kernel_rfl)
    have q61 : f 61 = undef := hfr 61 (by kernel_rfl)
    have q62 : f 62 = undef := hfr 62 (by kernel_rfl)
    have q63 : f 63 = undef := hfr 63 (by kernel_rfl)
    have q64 : f 64 = undef := hfr 64 (by kernel_rfl)
    have q65 : f 65 = undef := hfr 65 (by kernel_rfl)
    rw [show Fr 66 f = ⟨#[f 0, f 1, f 2, f 3, f 4, f 5, f 6, f 7, f 8, f 9, f 10, f 11, f 12, f 13, f 14, f 15, f 16, f 17, f 18, f 19, f 20, f 21, f 22, f 23, f 24, f 25, f 26, f 27, f 28, f 29, f 30, f 31, f 32, f 33, f 34, f 35, f 36, f 37, f 38, f 39, f 40, f 41, f 42, f 43, f 44, f 45, f 46, f 47, f 48, f 49, f 50, f 51, f 52, f 53, f 54, f 55, f 56, f 57, f 58, f 59, f 60, f 61, f 62, f 63, f 64, f 65], []⟩ from rfl]
    simp only [q0, q1, q2, q3, q4, q5, q6, q7, q8, q9, q16, q17, q18, q19, q20, q21, q22, q23, q24, q25, q26, q27, q28, q29, q30, q31, q32, q33, q34, q35, q36, q37, q38, q39, q40, q41, q42, q43, q44, q45, q46, q47, q48, q49, q50, q51, q52, q53, q54, q55, q56, q57, q58, q59, q60, q61, q62, q63, q64, q65, q15]
    clear q0 q1 q2 q3 q4 q5 q6 q7 q8 q9 q16 q17 q18 q19 q20 q21 q22 q23 q24 q25 q26 q27 q28 q29 q30 q31 q32 q33 q34 q35 q36 q37 q38 q39 q40 q41 q42 q43 q44 q45 q46 q47 q48 q49 q50 q51 q52 q53 q54 q55 q56 q57 q58 q59 q60 q61 q62 q63 q64 q65 hfr hR hG q15
    generalize f 10 = u10, f 11 = u11, f 12 = u12, f 13 = v13, f 14 = v14 at *
    obtain ⟨l, hp, hso, hwa, hbl, rfl⟩ := q13
    obtain ⟨d, hd⟩ : ∃ d, d = cutLast (keepL l bs) lack := ⟨_, rfl⟩
    rw [← hd] at hwa ⊢
    obtain ⟨sk0, hsk⟩ : ∃ s, s = g.es.map skel := ⟨_, rfl⟩
    have hD1 : DiskAt w1 g st := (HG.out.new HNEW.out).new (Chg.of_below hbl)
    have hfl : ∀ {x : World}, DiskAt x g st → DiskAt x g { st with fs := fsOf (imgs sk0 []) } := fun hx => by
      refine DiskAt.refs (st := st) (fs := st.fs) hx ?_
      show _ = fsOf sk0
      rw [hsk, fsOf_skel]
    obtain ⟨pd, cd, hv13⟩ : ∃ p c, v13 = .slice p d.length c := by
      rcases hwa.form with ⟨h1, h2⟩ | ⟨gg, cap, h1, _⟩
      · exact ⟨none, 0, by rw [h1, h2]; rfl⟩
      · exact ⟨_, _, h1⟩
    subst hv13
    obtain ⟨nd, hnd⟩ : ∃ n, n = d.length := ⟨_, rfl⟩
    rw [← hnd] at hwa ⊢
    have hsub : ∀ z ∈ d, (∃ p ∈ sk0, p.2.1 = z.to_) ∧ z.x.at_ + z.x.s.size ≤ 1099511627776 := fun z hz => by
      rw [hd] at hz
      obtain ⟨y, hy, h1, h2, h3⟩ := keep_sub hz
      obtain ⟨e, he, h4, h5⟩ := waits_mem (hp.mem_iff.1 hy)
      refine ⟨⟨skel e, by rw [hsk]; exact List.mem_map_of_mem he, by rw [← h1, ← h4]; rfl⟩, ?_⟩
      have h6 : nf e ∈ st.fs := by rw [← HG.out.fs]; exact List.mem_map_of_mem he
      have h7 := (HIN.out _ h6).2.2.2 y.x h5
      omega
    have hskin : SkIn sk0 1099511627776 := fun p hpm => by
      rw [hsk] at hpm
      obtain ⟨e, he, rfl⟩ := List.mem_map.1 hpm
      exact HIN.out (nf e) (by rw [← HG.out.fs]; exact List.mem_map_of_mem he)
    have hnd40 : nd ≤ 1099511627776 := by
      have h1 : d.length ≤ (keepL l bs).length := by
        rw [hd]
        rcases List.eq_nil_or_concat (keepL l bs) with h0 | ⟨d0, y, h0⟩
        · rw [h0]; exact Nat.le_refl _
        · rw [List.concat_eq_append] at h0
          rw [h0, cutLast_snoc]; simp
      have h2 := keepL_length l bs
      have h3 := hp.length_eq
      omega
    have HP := Lib.hid hp
    have HSO := Lib.hid hso
    have HWA := Lib.hid hwa
    have HBL := Lib.hid hbl
    have HDD := Lib.hid hd
    have HSK := Lib.hid hsk
    have HD1 := Lib.hid hD1
    have HFL : Hid (DiskAt w1 g { st with fs := fsOf (imgs sk0 []) }) := hfl hD1
    have HND := Lib.hid hnd
    have HSUB := Lib.hid hsub
    have HSIN := Lib.hid hskin
    clear hp hso hwa hbl hd hsk hD1 hfl hnd hsub hskin b0 b1
    go_wp2_with fail
    go_loopw [5, 15] (fun _ i wr => ∃ k : Nat, k ≤ nd ∧ i = .int .i64 k ∧ ∃ g1, DiskAt wr g1 { st with fs := fsOf (imgs sk0 (d.take k)) } ∧ g1.es.map skel = imgs sk0 (d.take k) ∧ Gh.To w1 g g1 wr) (fun _ i _ => nd - (intOf i).toNat)
    case atStart => exact ⟨0, Nat.zero_le _, rfl, g, HFL.out, HSK.out.symm, Gh.To.refl _ _⟩
    case round =>
      obtain ⟨k, hk, rfl, g1, hdk, hsk1, hto⟩ := hrel
      have HDK := Lib.hid hdk
      have HSK1 := Lib.hid hsk1
      have HTO := Lib.hid hto
      clear HFL
      by_cases hlt : k < nd
      · have hlt' : k < d.length := by rw [← HND.out]; exact hlt
        obtain ⟨z, hz⟩ : ∃ z, d[k]? = some z := ⟨_, List.getElem?_eq_getElem hlt'⟩
        have hzm := HSUB.out z (List.mem_of_getElem? hz)
        obtain ⟨gd, hpd, e0, e1c, e2, e3⟩ : ∃ gd, pd = some ⟨gd, 0, none⟩ ∧ wr.cell? ⟨gd, k * 4, none⟩ = some (.int .i64 z.x.turn) ∧ wr.cell? ⟨gd, k * 4 + 1, none⟩ = some (.int .i64 z.x.at_) ∧ wr.cell? ⟨gd, k * 4 + 1 + 1, none⟩ = some (.string z.x.s) ∧ wr.cell? ⟨gd, k * 4 + 1 + 1 + 1, none⟩ = some (.pointer (some ⟨z.to_, 0, none⟩)) := by
          have hwa : WaitsAt w1 W0.heap.size (.slice pd d.length cd) d := by rw [← HND.out]; exact HWA.out
          rcases hwa.form with ⟨_, h2⟩ | ⟨gd, cap, h1, _, hge, _, h3⟩
          · rw [h2] at hz; cases hz
          · cases h1
            obtain ⟨c0, c1, c2, c3⟩ := h3 k z hz
            have hno : ¬ gd ∈ g.fp := fun hx => by
              have := HG.out.lt gd hx
              have := HNEW.out.size
              omega
            exact ⟨gd, rfl, hto.chg.cell c0 hno, hto.chg.cell c1 hno, hto.chg.cell c2 hno, hto.chg.cell c3 hno⟩
        subst hpd
        obtain ⟨e1, hem, heb⟩ := ent_of (g1 := g1) (l := sk0) (by rw [hsk1, blks_imgs]) hzm.1
        have htk : d.take (k + 1) = d.take k ++ [z] := by rw [List.take_add_one, hz, Option.toList_some]
        obtain ⟨⟨tn, at_, s⟩, pt⟩ := z
        simp only at heb
        subst heb
        have hgin : Within e1.f 1099511627776 := by
          have h1 := HSIN.out.imgs (d := d.take k) (fun z hz' => (HSUB.out z (List.mem_of_mem_take hz')).2)
          exact h1 (skel e1) (by rw [← hsk1]; exact List.mem_map_of_mem hem)
        have ha : at_ + s.size ≤ 1099511627776 := hzm.2
        have hx : e1.f.image.length ≤ 1099511627776 := hgin.1
        have HTK := Lib.hid htk
        have HEM := Lib.hid hem
        clear hdk hsk1 hto hz hzm htk hgin hlt'
        go_wp2_with fail
        rename_i Kc2 hc2
        have hE0 := HDK.out.ents e1 HEM.out
        have hC0 : Chg (fun _ => False) wr (wr.alloc (.cells #[.int .i64 tn, .int .i64 at_, .string s, .pointer (some ⟨e1.blk, 0, none⟩)] 105)) := Chg.alloc _ (Chg.refl _ _) _
        have hE := hE0.chg hC0 (fun _ _ x => x)
        have x1 : (wr.alloc (.cells #[.int .i64 tn, .int .i64 at_, .string s, .pointer (some ⟨e1.blk, 0, none⟩)] 105)).cell? ⟨wr.heap.size, 1, none⟩ = some (.int .i64 at_) := by simp
        have x2 : (wr.alloc (.cells #[.int .i64 tn, .int .i64 at_, .string s, .pointer (some ⟨e1.blk, 0, none⟩)] 105)).cell? ⟨wr.heap.size, 2, none⟩ = some (.string s) := by simp
        have x3 : (wr.alloc (.cells #[.int .i64 tn, .int .i64 at_, .string s, .pointer (some ⟨e1.blk, 0, none⟩)] 105)).cell? ⟨wr.heap.size, 3, none⟩ = some (.pointer (some ⟨e1.blk, 0, none⟩)) := by simp
        generalize wr.alloc (.cells #[.int .i64 tn, .int .i64 at_, .string s, .pointer (some ⟨e1.blk, 0, none⟩)] 105) = W2 at *
        obtain ⟨ys, hys⟩ : ∃ ys, ys = putB e1.f.image at_ s.data.toList := ⟨_, rfl⟩
        have HOB : Hid (e1.vi.ownBlock ≠ some wr.heap.size) := fun hx => by have := hE0.lt _ (mem_foot_vi e1 hx); omega
        have c1 := hE.cells.1
        have HE1 : Hid (EntAt W2.drew e1) := hE.drew
        have HI : Hid (BytesAt W2.drew e1.vi e1.f.image) := hE.image
        have HC0 := Lib.hid hC0
        have HE0 := Lib.hid hE0
        have HY := Lib.hid hys
        clear hE hC0 hys hE0 e0 e1c e2 e3
        refine region_ph (n := 66) 12 [13, 16] rfl rfl (by kernel_rfl) (by kernel_rfl) (by kernel_rfl) (fun i v => match i with | 0 => v = .pointer (some ⟨wr.heap.size, 3, none⟩) | 1 => v = .pointer (some ⟨e1.blk, 0, none⟩) | 2 => v = .pointer (some ⟨wr.heap.size, 3, none⟩) | 3 => v = .pointer (some ⟨e1.blk, 0, none⟩) | 4 => v = .pointer (some ⟨e1.blk, 0, none⟩) | 5 => v = .pointer (some ⟨e1.blk, 0, none⟩) | 6 => v = e1.vi | 7 => v = .pointer (some ⟨wr.heap.size, 0, none⟩) | 8 => v = .pointer (some ⟨wr.heap.size, 1, none⟩) | 9 => v = .int .i64 at_ | 10 => v = .pointer (some ⟨wr.heap.size, 0, none⟩) | 11 => v = .pointer (some ⟨wr.heap.size, 2, none⟩) | 12 => v = .string s | 14 => v = .pointer (some ⟨e1.blk, 0, none⟩) | 15 => v = .pointer (some ⟨e1.blk, 0, none⟩) | _ => True)
          (fun p f w' => match p with | 0 => W2.drew = w' | 1 => PutW W2.drew e1.vi ys (f 32) w' | _ => ∃ w1 v', PutW W2.drew e1.vi ys v' w1 ∧ w1.setCell ⟨e1.blk, 0, none⟩ v' = w') ?_ ?_ ?_
        · exact rfl
        · simp only [AllAt]
          refine ⟨?_, ?_, ?_, ?_, ?_, ?_, ?_, ?_, ?_, ?_, ?_, ?_, ?_, ?_, ?_, ?_, ?_, trivial⟩
          · refine StepPh.reg rfl (by decide) (fun d hd => by cases hd; decide) ?_
            intro f w' p hG hup hdn hfr hp K hK
            have g5 : f 5 = .pointer (some ⟨wr.heap.size, 0, none⟩) := hfr 5 (by kernel_rfl)
            clear hfr hp hup hdn
            go_simp
            exact hK _ _ rfl hG
          · refine StepPh.reg rfl (by decide) (fun d hd => by cases hd; decide) ?_
            intro f w' p hG hup hdn hfr hp K hK
            have g19 : f 19 = .pointer (some ⟨wr.heap.size, 3, none⟩) := hp 0 _ 19 rfl rfl (by kernel_rfl)
            have hpp : p = 0 ∨ p = 1 := by have := hdn 1 (by decide) (.inl (by kernel_rfl)); omega
            clear hfr hp hup hdn
            rcases hpp with rfl | rfl
            · have hGe : W2.drew = w' := hG
              subst hGe
              go_simp
              exact hK _ _ rfl hG
            · have hGp : PutW W2.drew e1.vi ys (f 32) w' := hG
              have e3 := hGp.other HOB.out x3
              go_simp
              exact hK _ _ rfl hG
          · refine StepPh.reg rfl (by decide) (fun d hd => by cases hd; decide) ?_
            intro f w' p hG hup hdn hfr hp K hK
            have g5 : f 5 = .pointer (some ⟨wr.heap.size, 0, none⟩) := hfr 5 (by kernel_rfl)
            clear hfr hp hup hdn
            go_simp
            exact hK _ _ rfl hG
          · refine StepPh.reg rfl (by decide) (fun d hd => by cases hd; decide) ?_
            intro f w' p hG hup hdn hfr hp K hK
            have g21 : f 21 = .pointer (some ⟨wr.heap.size, 3, none⟩) := hp 2 _ 21 rfl rfl (by kernel_rfl)
            obtain rfl : p = 0 := by have := hdn 0 (by decide) (.inl (by kernel_rfl)); omega
            have hGe : W2.drew = w' := hG
            subst hGe
            clear hfr hp hup hdn
            go_simp
            exact hK _ _ rfl hG
          · refine StepPh.reg rfl (by decide) (fun d hd => by cases hd; decide) ?_
            intro f w' p hG hup hdn hfr hp K hK
            have g22 : f 22 = .pointer (some ⟨e1.blk, 0, none⟩) := hp 3 _ 22 rfl rfl (by kernel_rfl)
            clear hfr hp hup hdn
            go_simp
            exact hK _ _ rfl hG
          · refine StepPh.reg rfl (by decide) (fun d hd => by cases hd; decide) ?_
            intro f w' p hG hup hdn hfr hp K hK
            have g23 : f 23 = .pointer (some ⟨e1.blk, 0, none⟩) := hp 4 _ 23 rfl rfl (by kernel_rfl)
            clear hfr hp hup hdn
            go_simp
            exact hK _ _ rfl hG
          · refine StepPh.reg rfl (by decide) (fun d hd => by cases hd; decide) ?_
            intro f w' p hG hup hdn hfr hp K hK
            have g24 : f 24 = .pointer (some ⟨e1.blk, 0, none⟩) := hp 5 _ 24 rfl rfl (by kernel_rfl)
            obtain rfl : p = 0 := by have := hdn 0 (by decide) (.inl (by kernel_rfl)); omega
            have hGe : W2.drew = w' := hG
            subst hGe
            clear hfr hp hup hdn
            go_simp
            exact hK _ _ rfl hG
          · refine StepPh.reg rfl (by decide) (fun d hd => by cases hd; decide) ?_
            intro f w' p hG hup hdn hfr hp K hK
            have g5 : f 5 = .pointer (some ⟨wr.heap.size, 0, none⟩) := hfr 5 (by kernel_rfl)
            clear hfr hp hup hdn
            go_simp
            exact hK _ _ rfl hG
          · refine StepPh.reg rfl (by decide) (fun d hd => by cases hd; decide) ?_
            intro f w' p hG hup hdn hfr hp K hK
            have g26 : f 26 = .pointer (some ⟨wr.heap.size, 0, none⟩) := hp 7 _ 26 rfl rfl (by kernel_rfl)
            clear hfr hp hup hdn
            go_simp
            exact hK _ _ rfl hG
          · refine StepPh.reg rfl (by decide) (fun d hd => by cases hd; decide) ?_
            intro f w' p hG hup hdn hfr hp K hK
            have g27 : f 27 = .pointer (some ⟨wr.heap.size, 1, none⟩) := hp 8 _ 27 rfl rfl (by kernel_rfl)
            obtain rfl : p = 0 := by have := hdn 0 (by decide) (.inl (by kernel_rfl)); omega
            have hGe : W2.drew = w' := hG
            subst hGe
            clear hfr hp hup hdn
            go_simp
            exact hK _ _ rfl hG
          · refine StepPh.reg rfl (by decide) (fun d hd => by cases hd; decide) ?_
            intro f w' p hG hup hdn hfr hp K hK
            have g5 : f 5 = .pointer (some ⟨wr.heap.size, 0, none⟩) := hfr 5 (by kernel_rfl)
            clear hfr hp hup hdn
            go_simp
            exact hK _ _ rfl hG
          · refine StepPh.reg rfl (by decide) (fun d hd => by cases hd; decide) ?_
            intro f w' p hG hup hdn hfr hp K hK
            have g29 : f 29 = .pointer (some ⟨wr.heap.size, 0, none⟩) := hp 10 _ 29 rfl rfl (by kernel_rfl)
            clear hfr hp hup hdn
            go_simp
            exact hK _ _ rfl hG
          · refine StepPh.reg rfl (by decide) (fun d hd => by cases hd; decide) ?_
            intro f w' p hG hup hdn hfr hp K hK
            have g30 : f 30 = .pointer (some ⟨wr.heap.size, 2, none⟩) := hp 11 _ 30 rfl rfl (by kernel_rfl)
            obtain rfl : p = 0 := by have := hdn 0 (by decide) (.inl (by kernel_rfl)); omega
            have hGe : W2.drew = w' := hG
            subst hGe
            clear hfr hp hup hdn
            go_simp
            exact hK _ _ rfl hG
          · refine StepPh.wr 0 rfl (by decide) rfl (fun d hd => by cases hd; decide) (fun j hj => by omega) ?_
            intro f w' hG hfr hp K hK
            have g25 : f 25 = e1.vi := hp 6 _ 25 rfl rfl (by kernel_rfl)
            have g28 : f 28 = .int .i64 at_ := hp 9 _ 28 rfl rfl (by kernel_rfl)
            have g31 : f 31 = .string s := hp 12 _ 31 rfl rfl (by kernel_rfl)
            clear hfr hp
            have hGe : W2.drew = w' := hG
            subst hGe
            go_simp
            refine (put_to HY.out (put_any e1.vi e1.f.image at_ s _ HI.out hx ha)).mono ?_
            rintro en w5 ⟨v', rfl, hb1, hg1, hl1⟩
            exact hK _ _ (fun _ => trivial) ⟨hb1, hg1, hl1⟩
          · refine StepPh.reg rfl (by decide) (fun d hd => by cases hd; decide) ?_
            intro f w' p hG hup hdn hfr hp K hK
            have g20 : f 20 = .pointer (some ⟨e1.blk, 0, none⟩) := hp 1 _ 20 rfl rfl (by kernel_rfl)
            clear hfr hp hup hdn
            go_simp
            exact hK _ _ rfl hG
          · refine StepPh.reg rfl (by decide) (fun d hd => by cases hd; decide) ?_
            intro f w' p hG hup hdn hfr hp K hK
            have g33 : f 33 = .pointer (some ⟨e1.blk, 0, none⟩) := hp 14 _ 33 rfl rfl (by kernel_rfl)
            clear hfr hp hup hdn
            go_simp
            exact hK _ _ rfl hG
          · refine StepPh.wr 1 rfl (by decide) rfl (fun d hd => by cases hd) (fun j hj => by (obtain rfl : j = 0 := (by omega)); kernel_rfl) ?_
            intro f w' hG hfr hp K hK
            have g34 : f 34 = .pointer (some ⟨e1.blk, 0, none⟩) := hp 15 _ 34 rfl rfl (by kernel_rfl)
            clear hfr hp
            have hG1 : PutW W2.drew e1.vi ys (f 32) w' := hG
            obtain ⟨p', c', g32⟩ := hG1.1.slice
            rw [g32] at hG1
            have hcell := hG1.cell_vi HE1.out
            have hfz := hG1.free_vi HE1.out
            go_simp
            exact hK undef _ (fun h => by cases h) ⟨w', _, hG1, rfl⟩
        · intro f w5 hG hfr hR
          refine hc2 _ _ ?_
          clear hR
          obtain ⟨wp, v', hP, rfl⟩ := hG
          have hF := ent_set_image HE1.out hP.2.1 hP.1 (own_form hP.2.2)
          have q0 : f 0 = .pointer (some ⟨g.d, 0, none⟩) := hfr 0 (by kernel_rfl)
          have q1 : f 1 = .agg #[.slice ak nk ck, .int .i64 lack] := hfr 1 (by kernel_rfl)
          have q2 : f 2 = undef := hfr 2 (by kernel_rfl)
          have q3 : f 3 = .pointer (some ⟨R, 0, none⟩) := hfr 3 (by kernel_rfl)
          have q4 : f 4 = undef := hfr 4 (by kernel_rfl)
          have q5 : f 5 = .pointer (some ⟨wr.heap.size, 0, none⟩) := hfr 5 (by kernel_rfl)
          have q6 : f 6 = undef := hfr 6 (by kernel_rfl)
          have q7 : f 7 = undef := hfr 7 (by kernel_rfl)
          have q8 : f 8 = .pointer (some ⟨g.d, 0, none⟩) := hfr 8 (by kernel_rfl)
          have q9 : f 9 = .bool false := hfr 9 (by kernel_rfl)
          have q10 : f 10 = u10 := hfr 10 (by kernel_rfl)
          have q11 : f 11 = u11 := hfr 11 (by kernel_rfl)
          have q12 : f 12 = u12 := hfr 12 (by kernel_rfl)
          have q13 : f 13 = .slice (some ⟨gd, 0, none⟩) nd cd := hfr 13 (by kernel_rfl)
          have q14 : f 14 = .int .i64 nd := hfr 14 (by kernel_rfl)
          have q15 : f 15 = .int .i64 k := hfr 15 (by kernel_rfl)
          have q36 : f 36 = undef := hfr 36 (by kernel_rfl)
          have q37 : f 37 = undef := hfr 37 (by kernel_rfl)
          have q38 : f 38 = undef := hfr 38 (by kernel_rfl)
          have q39 : f 39 = undef := hfr 39 (by kernel_rfl)
          have q40 : f 40 = undef := hfr 40 (by kernel_rfl)
          have q41 : f 41 = undef := hfr 41 (by kernel_rfl)
          have q42 : f 42 = undef := hfr 42 (by kernel_rfl)
          have q43 : f 43 = undef := hfr 43 (by kernel_rfl)
          have q44 : f 44 = undef := hfr 44 (by kernel_rfl)
          have q45 : f 45 = undef := hfr 45 (by kernel_rfl)
          have q46 : f 46 = undef := hfr 46 (by kernel_rfl)
          have q47 : f 47 = undef := hfr 47 (by kernel_rfl)
          have q48 : f 48 = undef := hfr 48 (by kernel_rfl)
          have q49 : f 49 = undef := hfr 49 (by kernel_rfl)
          have q50 : f 50 = undef := hfr 50 (by kernel_rfl)
          have q51 : f 51 = undef := hfr 51 (by kernel_rfl)
          have q52 : f 52 = undef := hfr 52 (by kernel_rfl)
          have q53 : f 53 = undef := hfr 53 (by kernel_rfl)
          have q54 : f 54 = undef := hfr 54 (by kernel_rfl)
          have q55 : f 55 = undef := hfr 55 (by kernel_rfl)
          have q56 : f 56 = undef := hfr 56 (by kernel_rfl)
          have q57 : f 57 = undef := hfr 57 (by kernel_rfl)
          have q58 : f 58 = undef := hfr 58 (by kernel_rfl)
          have q59 : f 59 = undef := hfr 59 (by kernel_rfl)
          have q60 : f 60 = undef := hfr 60 (by kernel_rfl)
          have q61 : f 61 = undef := hfr 61 (by kernel_rfl)
          have q62 : f 62 = undef := hfr 62 (by kernel_rfl)
          have q63 : f 63 = undef := hfr 63 (by kernel_rfl)
          have q64 : f 64 = undef := hfr 64 (by kernel_rfl)
          have q65 : f 65 = undef := hfr 65 (by kernel_rfl)
          rw [show Fr 66 f = ⟨#[f 0, f 1, f 2, f 3, f 4, f 5, f 6, f 7, f 8, f 9, f 10, f 11, f 12, f 13, f 14, f 15, f 16, f 17, f 18, f 19, f 20, f 21, f 22, f 23, f 24, f 25, f 26, f 27, f 28, f 29, f 30, f 31, f 32, f 33, f 34, f 35, f 36, f 37, f 38, f 39, f 40, f 41, f 42, f 43, f 44, f 45, f 46, f 47, f 48, f 49, f 50, f 51, f 52, f 53, f 54, f 55, f 56, f 57, f 58, f 59, f 60, f 61, f 62, f 63, f 64, f 65], []⟩ from rfl]
          simp only [q0, q1, q2, q3, q4, q5, q6, q7, q8, q9, q10, q11, q12, q13, q14, q15, q36, q37, q38, q39, q40, q41, q42, q43, q44, q45, q46, q47, q48, q49, q50, q51, q52, q53, q54, q55, q56, q57, q58, q59, q60, q61, q62, q63, q64, q65]
          clear q0 q1 q2 q3 q4 q5 q6 q7 q8 q9 q10 q11 q12 q13 q14 q15 q36 q37 q38 q39 q40 q41 q42 q43 q44 q45 q46 q47 q48 q49 q50 q51 q52 q53 q54 q55 q56 q57 q58 q59 q60 q61 q62 q63 q64 q65 hfr hP
          have HF := Lib.hid hF
          clear hF
          generalize wp.setCell ⟨e1.blk, 0, none⟩ v' = W5 at *
          generalize f 16 = u16, f 17 = u17, f 18 = u18
          go_wp2_with fail
          have hu := HDK.out.upd HEM.out ((Ent.To.new HE0.out HC0.out.drew).trans HF.out)
          have hsk2 : (setE g1.es { e1 with vi := v', f := { e1.f with image := ys } }).map skel = imgs sk0 (d.take (k + 1)) := by
            rw [HTK.out, imgs_snoc, ← HSK1.out]
            exact setE_img (e' := { e1 with vi := v', f := { e1.f with image := ys } }) HDK.out HEM.out rfl rfl ⟨tn, at_, s⟩ (by rw [HY.out]; rfl)
          refine ⟨⟨k + 1, by omega, by go_num, _, DiskAt.refs (st := st) hu.1 ?_, hsk2, HTO.out.trans hu.2⟩, by simp [intOf]; omega⟩
          rw [← hsk2, fsOf_skel]
      · have hkn : k = nd := by omega
        have hdk2 := HDK.out
        have hsk2 := HSK1.out
        rw [hkn, HND.out, List.take_length] at hdk2 hsk2
        have hgd := HTO.out.d
        obtain ⟨sk, hskd⟩ : ∃ s, s = imgs sk0 d := ⟨_, rfl⟩
        rw [← hskd] at hdk2 hsk2
        have htot : sumL g1.es ≤ 1099511627776 := by
          have h1 := HSUM.out l HP.out HSO.out
          rw [← HDD.out, ← HSK.out, ← hskd, ← hsk2, List.map_map] at h1
          exact h1
        have HSKD := Lib.hid hskd
        have HTOT := Lib.hid htot
        obtain ⟨_, _, _, _, d4, _, d6, dz⟩ := hdk2.cells
        have z4 := dz 4
        rw [hgd] at d4 d6 z4
        have hs0 := hdk2.set 4 (.int .i64 0) { st with fs := fsOf sk, size := 0 } rfl rfl
        rw [hgd] at hs0
        have e6 := hs0.1.cells.2.2.2.2.2.2.1
        rw [hgd] at e6
        have HS0 := Lib.hid hs0
        have HSK2 := Lib.hid hsk2
        have HGD := Lib.hid hgd
        clear hkn hdk2 hsk2 hgd hskd htot dz hs0
        have hwi : SkIn sk 1099511627776 := by rw [HSKD.out]; exact HSIN.out.imgs (fun z hz => (HSUB.out z hz).2)
        have HWI := Lib.hid hwi
        clear hwi
        obtain ⟨R2, hR2⟩ : ∃ R, R = wr.heap.size := ⟨_, rfl⟩
        have HR2 := Lib.hid hR2
        have hsz2 : (wr.setCell ⟨g.d, 4, none⟩ (.int .i64 0)).heap.size = R2 := by rw [hR2]; simp [World.setCell]
        have HSZ2 := Lib.hid hsz2
        clear hR2 hsz2
        go_wp2_with (at_range; refine wpList_range_ents rfl _ rfl g1.mb g1.es rfl HS0.out.1.map ?_; intro wb cntb hrgb hgb hsb)
        rw [HSZ2.out] at hrgb hsb
        rw [← HR2.out]
        try go_frame
        have HRGB := Lib.hid hrgb
        have HDB : Hid (DiskAt wb g1 { st with fs := fsOf sk, size := 0 }) := HS0.out.1.new (Chg.of_grown (S := fun _ => False) hgb (fun _ hk => by cases hk))
        have HTB : Hid (Gh.To w1 g g1 wb) := (HTO.out.trans HS0.out.2).trans (Gh.To.new g1 (Chg.of_grown (S := fun _ => False) hgb (fun _ hk => by cases hk)))
        have HSB := Lib.hid hsb
        have HNR : Hid (R2 ∉ g1.fp) := fun hx => by
          have := HS0.out.1.lt R2 hx
          rw [HSZ2.out] at this
          omega
        clear hrgb hgb hsb
        go_loopw [7] (fun _ wr => ∃ vis rem cnt g2, RangeIn wr g1.mb R2 g1.es vis rem cnt ∧ DiskAt wr g2 { st with fs := g2.es.map nf, size := sumL vis } ∧ g2.es.map skel = (g1.es.map skel).map (loseIf vis) ∧ g2.mb = g1.mb ∧ R2 ∉ g2.fp ∧ wb.heap.size ≤ wr.heap.size ∧ Gh.To w1 g g2 wr) (fun _ wr => toCome g1.mb wr R2)
        case atStart =>
          refine ⟨[], _, _, g1, HRGB.out, ?_, ?_, rfl, HNR.out, Nat.le_refl _, HTB.out⟩
          · have := HDB.out
            have h2 := this.fs
            simp only at h2
            rw [← h2] at this
            exact this
          · refine ((List.map_congr_left fun p _ => ?_).trans (List.map_id _)).symm
            unfold loseIf
            simp
        case round =>
          obtain ⟨wr_, hwr_⟩ : ∃ x : World, x = wr := ⟨_, rfl⟩
          subst hwr_
          obtain ⟨vis, rem, cnt, g2, hrg, hdx, hskx, hmbx, hnr2, hwbs, htx⟩ := hrel
          have HWBS := Lib.hid hwbs
          have HRG1 := Lib.hid hrg
          have HDX := Lib.hid hdx
          have HSKX := Lib.hid hskx
          have HMBX := Lib.hid hmbx
          have HTX := Lib.hid htx
          have hgdx : g2.d = g.d := htx.d
          have HNR2 := Lib.hid hnr2
          have HGDX := Lib.hid hgdx
          clear hrg hdx hskx hmbx htx hgdx hnr2 hwbs HRGB
          go_wp2_with (at_next; refine wpList_next_ents rfl _ rfl g1.mb R2 g1.es vis rem cnt rfl HRG1.out ?cd ?cm)
          case cd =>
            intro hrem
            have hpv : vis.Perm g1.es := by
              have := HRG1.out
              rw [hrem] at this
              exact this.done
            have HPV := Lib.hid hpv
            obtain ⟨_, _, _, _, _, _, _, dz⟩ := HDX.out.cells
            rw [HGDX.out] at dz
            obtain ⟨y0, y1, y2, _⟩ := HDX.out.cells
            rw [HGDX.out] at y0 y1 y2
            have z0 := dz 0
            have z1 := dz 1
            have z2 := dz 2
            clear hrem hpv dz
            go_wp2_with fail
            go_end0
            have hfin : g2.es.map nf = sk.map fun p => (p.1, loseF p.2.2) := by
              rw [← fsOf_skel, HSKX.out, HSK2.out]
              unfold fsOf
              rw [List.map_map]
              refine List.map_congr_left fun p hp => ?_
              rw [← HSK2.out] at hp
              obtain ⟨y, hy, rfl⟩ := List.mem_map.1 hp
              have h1 : loseIf vis (skel y) = ((skel y).1, (skel y).2.1, loseF (skel y).2.2) := if_pos (List.mem_map_of_mem (HPV.out.mem_iff.2 hy))
              simp only [Function.comp, h1]
            have hsz : (sk.map fun p => (loseF p.2.2).bytes.length).sum = sumL vis := by
              rw [← HSK2.out, List.map_map]
              exact (sumL_perm HPV.out).symm
            have hcs : crashS st (imgs (g.es.map skel) (cutLast (keepL l bs) lack)) = ⟨false, false, 0, st.cap, sumL vis, st.turn, g2.es.map nf⟩ := by
              rw [← HDD.out, ← HSK.out, ← HSKD.out]
              unfold crashS
              rw [hsz, hfin]
            have s1 := HDX.out.set 0 (.bool false) { st with lit := false, fs := g2.es.map nf, size := sumL vis } rfl rfl
            have s2 := s1.1.set 1 (.bool false) { st with lit := false, down := false, fs := g2.es.map nf, size := sumL vis } rfl rfl
            have s3 := s2.1.set 2 (.int .i64 0) { st with lit := false, down := false, left := 0, fs := g2.es.map nf, size := sumL vis } rfl rfl
            rw [HGDX.out] at s1 s2 s3
            refine ⟨rfl, l, g2, HP.out, HSO.out, ?_, ?_⟩
            · rw [hcs]; exact s3.1
            · exact (((((Gh.To.new g HNEW.out).trans (Gh.To.new g (Chg.of_below HBL.out))).trans HTX.out).trans s1.2).trans s2.2).trans s3.2
          case cm =>
            intro e r1 r2 w2 cnt2 hrem hmb hrg2 hlt hg2 hs2 hen
            obtain ⟨m, hm⟩ : ∃ m, g1.mb = some m := by
              cases hq : g1.mb with
              | none => exact absurd hq hmb
              | some m => exact ⟨m, rfl⟩
            have hp := HRG1.out.perm
            rw [hrem] at hp
            have hem : e ∈ g1.es := hp.mem_iff.1 (List.mem_append_right _ (List.mem_append_right _ (List.mem_cons_self ..)))
            have hR2b : R2 < wb.heap.size := by rw [HSB.out]; exact Nat.lt_succ_self _
            have hR1 : w1.heap.size ≤ R2 := by rw [HR2.out]; exact HTO.out.chg.size
            have hnr2 := HNR2.out
            have hR2w : R2 < w2.heap.size := by rw [hs2]; exact Nat.lt_of_lt_of_le hR2b HWBS.out
            have hwb2 : wb.heap.size ≤ w2.heap.size := by rw [hs2]; exact HWBS.out
            have HWB2 := Lib.hid hwb2
            have hch : Chg (fun k => k = R2) wr_ w2 := Chg.of_grown hg2 (fun k hk _ => by cases hk; rfl)
            have ht2 : Gh.To w1 g g2 w2 := ⟨HTX.out.chg.trans hch (fun i hi hx => by omega), HTX.out.fp, HTX.out.d⟩
            have hd2 : DiskAt w2 g2 { st with fs := g2.es.map nf, size := sumL vis } := HDX.out.chg hch (fun k hk hx => hnr2 (hx ▸ hk))
            have hnv : e.blk ∉ vis.map (·.blk) := fun hx => by
              obtain ⟨y, hy, hyb⟩ := List.mem_map.1 hx
              have hym : y ∈ g1.es := hp.mem_iff.1 (List.mem_append_left _ hy)
              have hye := blk_one HDB.out hym hem hyb
              have hnd2 : (names (vis ++ (r1 ++ e :: r2))).Nodup := ((hp.map (fun e : Ent => e.name)).nodup_iff).2 HDB.out.map.1
              unfold names at hnd2
              rw [List.map_append, List.nodup_append] at hnd2
              exact hnd2.2.2 _ (List.mem_map_of_mem hy) e.name (List.mem_map_of_mem (List.mem_append_right _ (List.mem_cons_self ..))) (by rw [hye])
            have hbl : blksOf (g2.es.map skel) = blksOf (g1.es.map skel) := by
              rw [HSKX.out]
              unfold blksOf
              rw [List.map_map]
              refine List.map_congr_left fun p _ => ?_
              simp only [Function.comp, loseIf]
              split <;> rfl
            obtain ⟨e2, he2, heb⟩ := ent_of hbl ⟨skel e, List.mem_map_of_mem hem, rfl⟩
            have heb : e2.blk = e.blk := heb
            have hse : skel e2 = skel e := by
              have h1 : skel e2 ∈ (g1.es.map skel).map (loseIf vis) := by rw [← HSKX.out]; exact List.mem_map_of_mem he2
              obtain ⟨q, hq, hqe⟩ := List.mem_map.1 h1
              obtain ⟨y, hy, rfl⟩ := List.mem_map.1 hq
              have h2 : y.blk = e.blk := by
                have h3 := congrArg (fun p : Sk => p.2.1) hqe
                simp only [loseIf_blk] at h3
                have h4 : y.blk = e2.blk := h3
                rw [h4]; exact heb
              have h5 := blk_one HDB.out hy hem h2
              rw [← hqe, h5]
              exact if_neg hnv
            have hef : e2.f = e.f := congrArg (fun p : Sk => p.2.2) hse
            have hwin : Within e2.f 1099511627776 := by
              rw [hef]
              exact HWI.out (skel e) (by rw [← HSK2.out]; exact List.mem_map_of_mem hem)
            have hlo := lose_any e2 w2 (hd2.ents e2 he2) hwin
            rw [heb] at hlo
            have hsumv : sumL vis + (loseF e.f).bytes.length ≤ 1099511627776 := by
              have h1 := sumL_perm hp
              rw [sumL_append, sumL_append] at h1
              have h2 : sumL (e :: r2) = (loseF e.f).bytes.length + sumL r2 := rfl
              have h3 := HTOT.out
              omega
            have hme : cnt2 < toCome g1.mb wr_ R2 := by
              have h2 := HRG1.out
              rw [hm] at h2 ⊢
              rw [h2.toCome]
              exact hlt
            have HLO := Lib.hid hlo
            have HD2 := Lib.hid hd2
            have HE2 := Lib.hid he2
            have HEB := Lib.hid heb
            have HEF := Lib.hid hef
            have HNV := Lib.hid hnv
            have HR2W := Lib.hid hR2w
            have HT2 := Lib.hid ht2
            have HRG2 := Lib.hid hrg2
            have HME := Lib.hid hme
            have HM := Lib.hid hm
            have HCH := Lib.hid hch
            have HSE := Lib.hid hse
            clear hp hrem hmb hrg2 hlt hg2 hs2 hem hch hd2 hnv hbl hwin hlo hme hm heb hef he2 hse
            go_wp2_with (go_at_call 62; refine HLO.out.mono ?_)
            rintro en w3 ⟨rfl, e3, hf3, ht3⟩
            have hu := HD2.out.upd HE2.out ht3
            have HU := Lib.hid hu
            have HF3 := Lib.hid hf3
            have HT3 := Lib.hid ht3
            clear hu hf3 ht3
            have hgd3 : ({ g2 with es := setE g2.es e3 } : Gh).d = g.d := HGDX.out
            have d4 := HU.out.1.cells.2.2.2.2.1
            have z4 := HU.out.1.cells.2.2.2.2.2.2.2 4
            rw [hgd3] at d4 z4
            have q1 := HT3.out.at_.cells.2.1
            rw [HT3.out.blk, HEB.out] at q1
            obtain ⟨pb, cb, hvb⟩ := HT3.out.at_.bytes.slice
            obtain ⟨ln, hln⟩ : ∃ n, n = (loseF e.f).bytes.length := ⟨_, rfl⟩
            rw [hvb, HF3.out, HEF.out, ← hln] at q1
            have hsu : sumL vis + ln ≤ 1099511627776 := by rw [hln]; exact hsumv
            have hwr : IntKind.i64.wrap ((sumL vis : Int) + (ln : Int)) = ((sumL vis + ln : Nat) : Int) := by
              rw [IntWalk.i64_in _ (by omega)]; omega
            have HLN := Lib.hid hln
            clear hgd3 hvb hsumv hln
            go_wp2_with fail
            go_still_tail 12, (by kernel_rfl)
            change wpList _ _ _ _ _ w3.drew
            clear q1 d4 z4
            have hd5 := HU.out.1
            have z5 := hd5.drew.cells.2.2.2.2.2.2.2 4
            have hgd3 : ({ g2 with es := setE g2.es e3 } : Gh).d = g.d := HGDX.out
            have d5 := hd5.drew.cells.2.2.2.2.1
            rw [hgd3] at z5 d5
            have HD5 := Lib.hid hd5
            have hrg5 := HRG2.out
            rw [HM.out] at hrg5
            have hap := HD2.out.apart
            unfold Gh.fp at hap
            rw [HMBX.out.trans HM.out, List.nodup_cons, List.nodup_append] at hap
            have hmd : ¬ m = g.d := fun hx => hap.1 (List.mem_append_left _ (by rw [HGDX.out, ← hx]; simp))
            have hme : ¬ m ∈ e2.foot := fun hx => hap.2.2.2 m (by simp) m (List.mem_flatMap.2 ⟨e2, HE2.out, hx⟩) rfl
            have hrd : ¬ R2 = g.d := fun hx => HNR2.out (by rw [hx, ← HGDX.out]; exact mem_fp_d g2)
            have hrg6 : RangeIn w3 (some m) R2 g1.es (vis ++ [e]) (r1 ++ r2) cnt2 := hrg5.kept HT3.out.chg hme (fun hx => HNR2.out (mem_fp_ent g2 HE2.out hx))
            have hs5 : DiskAt (w3.setCell ⟨g.d, 4, none⟩ (.int .i64 ((sumL vis : Int) + ln))) { g2 with es := setE g2.es e3 } { st with fs := (setE g2.es e3).map nf, size := sumL vis + ln } ∧ Gh.To w3 { g2 with es := setE g2.es e3 } { g2 with es := setE g2.es e3 } (w3.setCell ⟨g.d, 4, none⟩ (.int .i64 ((sumL vis : Int) + ln))) := by
              rw [← HGDX.out]
              exact HD5.out.set 4 (.int .i64 ((sumL vis : Int) + ln)) { st with fs := (setE g2.es e3).map nf, size := sumL vis + ln } HD5.out.fs (by
                rw [show ((sumL vis : Int) + (ln : Int)) = ((sumL vis + ln : Nat) : Int) by omega]; rfl)
            have hrg7 : RangeIn (w3.setCell ⟨g.d, 4, none⟩ (.int .i64 ((sumL vis : Int) + ln))).drew (some m) R2 g1.es (vis ++ [e]) (r1 ++ r2) cnt2 :=
              hrg6.kept (S := fun k => k = g.d) (Chg.setCell (S := fun k => k = g.d) (Chg.refl _ _) (fun _ => rfl) _).drew hmd hrd
            have HS5 := Lib.hid hs5
            have HRG7 := Lib.hid hrg7
            clear hd5 hgd3 hrg5 hap hmd hme hrd hrg6 hs5 hrg7
            go_wp2_with fail
            refine ⟨⟨vis ++ [e], r1 ++ r2, cnt2, { g2 with es := setE g2.es e3 }, ?_, ?_, ?_, HMBX.out, ?_, ?_, ?_⟩, ?_⟩
            · rw [HM.out]; exact HRG7.out
            · have hq : sumL (vis ++ [e]) = sumL vis + ln := by
                have h1 : sumL [e] = (loseF e.f).bytes.length := Nat.add_zero _
                rw [sumL_append, HLN.out, h1]
              rw [hq]
              exact HS5.out.1.drew
            · rw [setE_at HD2.out HE2.out HT3.out.name HT3.out.blk loseF HF3.out, HSKX.out, List.map_map, HEB.out]
              exact List.map_congr_left fun p _ => loseIf_snoc HNV.out p
            · intro hx
              rcases HU.out.2.fp R2 hx with h1 | h1
              · exact HNR2.out h1
              · have := HR2W.out
                omega
            · exact Nat.le_trans HWB2.out (Nat.le_trans HU.out.2.chg.size (HS5.out.2.trans (Gh.To.new _ (Chg.refl _ _).drew)).chg.size)
            · exact ((HT2.out.trans HU.out.2).trans HS5.out.2).trans (Gh.To.new _ (Chg.refl _ _).drew)
            · have h1 := HME.out
              rw [HM.out] at h1 ⊢
              rw [HRG7.out.toCome]
              exact h1
end Go.Proofs.YtgephceihkkokaaGreatDoor
