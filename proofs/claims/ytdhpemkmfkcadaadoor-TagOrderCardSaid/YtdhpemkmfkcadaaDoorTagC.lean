/-
  A filter in memory; what New answers.
-/
import Derived.Test.YtdhpemkmfkcadaaDoorTagB
import Derived.Test.YtdhpemkmfkcadaaDoorShelf
import Derived.Test.YtdhpemkmfkcadaaDoorInvG
import Derived.Test.YtdhpemkmfkcadaaDoorDPhase
import Derived.Maps.AppendAt
namespace Go.Proofs.YtdhpemkmfkcadaaDoor
open Go.RowKit Go.ChangeMaps Go.WideShapes Go.Deep
set_option linter.unusedVariables false
set_option linter.unusedSimpArgs false
attribute [local go_sem] fr_opt

theorem own_slice {w : World} {base size n : Nat} {e : TypeId} {v : Value} {xs : List Value} (h : w.ownsRow base e size v n xs) : ∃ p c, v = .slice p n c := by
  rcases h.2 with ⟨e, h0⟩ | ⟨g, cap, cur, e, _⟩
  · exact ⟨none, 0, by rw [e, h0]⟩
  · exact ⟨_, _, e⟩
theorem strs_own {w : World} {base : Nat} {v : Value} {ts : List ByteArray} (h : w.ownsRow base 9 1 v ts.length (ts.map Value.string)) : Strs w 0 v ts := by
  obtain ⟨p, c, rfl⟩ := own_slice h
  refine ⟨p, c, rfl, ?_⟩
  rcases h.2 with ⟨e, h0⟩ | ⟨g, cap, cur, e, _⟩
  · exact .inl (List.length_eq_zero_iff.1 h0)
  · injection e with e1 e2 e3
    subst e1
    refine .inr ⟨g, 0, rfl, Nat.zero_le _, fun i hi => ?_⟩
    have := h.cells (g := g) rfl i (.string (ts.getD i ⟨#[]⟩)) (by rw [List.getElem?_map, List.getElem?_eq_getElem hi, List.getD_eq_getElem?_getD, List.getElem?_eq_getElem hi]; rfl)
    rw [add_none] at this
    exact this
theorem ints_own {w : World} {base : Nat} {v : Value} {zs : List Int} (h : w.ownsRow base 3 1 v zs.length (zs.map (Value.int .i64))) : Ints w v zs := by
  obtain ⟨p, c, rfl⟩ := own_slice h
  refine ⟨p, c, rfl, ?_⟩
  rcases h.2 with ⟨e, h0⟩ | ⟨g, cap, cur, e, _⟩
  · exact .inl (List.length_eq_zero_iff.1 h0)
  · injection e with e1 e2 e3
    subst e1
    refine .inr ⟨g, 0, rfl, fun i hi => ?_⟩
    have := h.cells (g := g) rfl i (.int .i64 (zs.getD i 0)) (by rw [List.getElem?_map, List.getElem?_eq_getElem hi, List.getD_eq_getElem?_getD, List.getElem?_eq_getElem hi]; rfl)
    rw [add_none] at this
    exact this

/-- A slice's length is within its room. -/
def CapOk (v : Value) : Prop := ∀ a n c, v = .slice a n c → n ≤ c
theorem own_cap {w : World} {base size n : Nat} {e : TypeId} {v : Value} {xs : List Value} (h : w.ownsRow base e size v n xs) : CapOk v := by
  intro a n' c hv
  rcases h.2 with ⟨rfl, _⟩ | ⟨g, cap, cur, rfl, _, _, hn, _⟩
  · injection hv with _ h1 h2; omega
  · injection hv with _ h1 h2; omega
theorem clone_any (v : Value) (ts : List ByteArray) (w : World) (h : Strs w 0 v ts) (hl : ts.length ≤ 1000000) :
    Calls Tryd.prog 20 #[v] w fun e w' => ∃ v', e = .returned v' ∧ Strs w' 0 v' ts ∧ CapOk v' ∧ Below w.heap.size w w' := by
  obtain ⟨a, c, rfl, h⟩ := h
  rcases h with rfl | ⟨b, o, rfl, _, h⟩
  · cases a with
    | none =>
      refine (Tryd.slices_Clone_string_nil _ _ w).mono ?_
      rintro e w' ⟨rfl, rfl⟩
      exact ⟨_, rfl, ⟨none, 0, rfl, .inl rfl⟩, fun a n c e => by injection e with _ h1 h2; omega, Below.refl _ _⟩
    | some a =>
      refine (Tryd.slices_Clone_string_zero a c w).mono ?_
      rintro e w' ⟨v', rfl, ho, _, hb⟩
      exact ⟨_, rfl, strs_own (ts := []) ho, own_cap ho, hb⟩
  · refine (Tryd.slices_Clone_string b o ts.length c ts w (Nat.le_refl _) (by omega) h).mono ?_
    rintro e w' ⟨v', rfl, ho, _, hb⟩
    rw [List.take_length] at ho
    exact ⟨_, rfl, strs_own ho, own_cap ho, hb⟩

/-- A tag's number. -/
def hashB (s : ByteArray) : Int := (hashF 0 (flatB [s]) : Nat)

/-- Behind the append of a number. -/
def AppI (B : Nat) (w : World) (v : Value) (hs : List Int) (h : Int) (v' : Value) (w' : World) : Prop :=
  w'.ownsRow B 3 1 v' (hs.length + 1) ((hs ++ [h]).map (Value.int .i64)) ∧ w.ownsRow B 3 1 v hs.length (hs.map (Value.int .i64)) ∧ w.grownBy w' v.ownBlock
theorem AppI.head {fb : Nat} {w w' : World} {v v0 v' : Value} {hs : List Int} {h : Int} (ha : AppI (fb + 1) w v hs h v' w') (hf : w.heap[fb]? = some (.cells #[v0, v] 39 (0, 0))) : w'.heap[fb]? = some (.cells #[v0, v] 39 (0, 0)) := by
  rw [ha.2.2.block fb (Array.getElem?_eq_some_iff.1 hf).1 (fun e => by have := (ha.2.1.lt fb e.symm).1; omega)]
  exact hf
theorem AppI.cell {fb : Nat} {w w' : World} {v v0 v' : Value} {hs : List Int} {h : Int} (ha : AppI (fb + 1) w v hs h v' w') (hf : w.heap[fb]? = some (.cells #[v0, v] 39 (0, 0))) : w'.cell? ⟨fb, 1, none⟩ = some v := by
  simp [World.cell?, ha.head hf]
theorem AppI.free {fb : Nat} {w w' : World} {v v0 v' : Value} {hs : List Int} {h : Int} (ha : AppI (fb + 1) w v hs h v' w') (hf : w.heap[fb]? = some (.cells #[v0, v] 39 (0, 0))) : w'.frozen? ⟨fb, 1, none⟩ = false := by
  simp [World.frozen?, ha.head hf]
theorem AppI.filed {fb : Nat} {w w' : World} {v v0 v' : Value} {hs : List Int} {h : Int} (ha : AppI (fb + 1) w v hs h v' w') (hf : w.heap[fb]? = some (.cells #[v0, v] 39 (0, 0))) :
    (w'.setCell ⟨fb, 1, none⟩ v').heap[fb]? = some (.cells #[v0, v'] 39 (0, 0)) ∧ (w'.setCell ⟨fb, 1, none⟩ v').ownsRow (fb + 1) 3 1 v' (hs ++ [h]).length ((hs ++ [h]).map (Value.int .i64)) := by
  refine ⟨heap_setCell_same _ _ _ _ _ _ (ha.head hf), ?_⟩
  rw [List.length_append]
  exact ha.1.kept (grownBy_setCell _ _ _ _) (by
    cases hv : v'.ownBlock with
    | none => exact .inl rfl
    | some k => exact .inr (fun e => by have := (ha.1.lt k hv).1; injection e with e; omega))
theorem AppI.below {fb : Nat} {W0 w w' : World} {v v0 v' : Value} {hs : List Int} {h : Int} (ha : AppI (fb + 1) w v hs h v' w') (hf : w.heap[fb]? = some (.cells #[v0, v] 39 (0, 0))) (hb : Below fb W0 w) : Below fb W0 (w'.setCell ⟨fb, 1, none⟩ v') := by
  have h1 : Below fb w w' := by
    have hlt := (Array.getElem?_eq_some_iff.1 hf).1
    exact (Below.refl _ _).grown ha.2.2 (by omega) (fun k e => by have := (ha.2.1.lt k e).1; omega)
  have hlt := (Array.getElem?_eq_some_iff.1 (ha.head hf)).1
  exact (hb.trans h1).grown (grownBy_setCell _ _ _ _) (by omega) (fun k e => by injection e with e; omega)

/-- A filter that wants these tags. -/
def FilAt (w : World) (fb : Nat) (L : List ByteArray) : Prop :=
  ∃ v0 v1, w.heap[fb]? = some (.cells #[v0, v1] 39 (0, 0)) ∧ Strs w 0 v0 L ∧ CapOk v0 ∧ Ints w v1 (L.map hashB)
theorem FilAt.below {w w' : World} {fb : Nat} {L : List ByteArray} (h : FilAt w fb L) (hb : Below w.heap.size w w') : FilAt w' fb L := by
  obtain ⟨v0, v1, h1, h2, hc, h3⟩ := h
  exact ⟨v0, v1, (hb.block fb (Array.getElem?_eq_some_iff.1 h1).1).trans h1, h2.below hb (Nat.le_refl _), hc, h3.below hb (Nat.le_refl _)⟩

/-- Why these tags are no filter's. -/
def newE (L : List ByteArray) : Int := if L.all plainB = false then 11 else if decide L.Nodup = false then 10 else if 4 < L.length then 6 else 0
def NewTo (w : World) (L : List ByteArray) (x : Int) (e : Ending) (w' : World) : Prop :=
  Below w.heap.size w w' ∧ ∃ p, e = .returned (.tuple #[.pointer p, .int .i64 x]) ∧ (x = 0 → ∃ fb, p = some ⟨fb, 0, none⟩ ∧ FilAt w' fb L) ∧ (x ≠ 0 → p = none)
theorem info_num : (Tryd.prog.info? 3).map (fun i => (i.zero, i.size, i.bytes)) = some (some (.int .i64 0), 1, 8) := by kernel_rfl
theorem append_int {B g c : Nat} {v : Value} {hs : List Int} {h : Int} (W : World) (hown : W.ownsRow B 3 1 v hs.length (hs.map (Value.int .i64))) (hk : W.cell? ⟨g, 0, none⟩ = some (.int .i64 h)) (hn : hs.length ≤ 1000000) (hb : B ≤ W.heap.size) (ty : TypeId) :
    ∃ v' w', (Builtin.append_ #[37, 37] ty #[v, .slice (some ⟨g, 0, none⟩) 1 c]).run Tryd.prog W = .ok v' w' ∧ AppI B W v hs h v' w' := by
  obtain ⟨i0, hi, hz0, hz1, hz2⟩ := info_parts info_num
  obtain ⟨v', w', hr, h2, h3, _, h4⟩ := run_append_own_at (P := Tryd.prog) W B 37 ty 3 i0 _ 1 8 Tryd.underlying37 hi hz0 hz1 hz2 rfl (by decide) v hs.length (hs.map (Value.int .i64)) hown ⟨g, 0, none⟩ 1 c [.int .i64 h] rfl
    (fun j u hu => by
      match j with
      | 0 => simp at hu; subst hu; simpa [Addr.add] using hk
      | j + 1 => simp at hu)
    (fun u hu => by simp at hu; subst hu; rfl) (by unfold maxLen; omega) (by omega) hb
  exact ⟨v', w', hr, by simpa using h2, hown, h3⟩

set_option maxHeartbeats 1000000 in
set_option maxRecDepth 100000 in
theorem new_any (v : Value) (L : List ByteArray) (x : Int) (w : World) (hv : Strs w 0 v L) (hl : L.length ≤ 1000000) (hs : ∀ t ∈ L, t.size ≤ maxLen) (hx : newE L = x) :
    Calls Tryd.prog 11 #[v] w (NewTo w L x) := by
  have hml : L.length ≤ maxLen := by unfold maxLen; omega
  have hml' : L.length < maxLen := by unfold maxLen; omega
  have HV := Lib.hid hv
  have HS := Lib.hid hs
  have HX := Lib.hid hx
  have HML := Lib.hid hml
  have HML' := Lib.hid hml'
  obtain ⟨a, cap, rfl⟩ := hv.form
  obtain ⟨n, hn⟩ : ∃ n, n = L.length := ⟨_, rfl⟩
  have HN := Lib.hid hn
  rw [← hn] at HV hl
  rw [← hn]
  clear hv hs hx hml hml' hn
  obtain ⟨xp, hxp⟩ : ∃ xp, L.all plainB = xp := ⟨_, rfl⟩
  have HXP := Lib.hid hxp
  clear hxp
  go_enter Tryd.func11, Tryd.ntmps11
  go_wp2_with fail
  refine (all_plain _ L xp w HV.out HML.out HS.out HXP.out).mono ?_
  rintro e w1 ⟨rfl, hb1⟩
  have HB1 := Lib.hid hb1
  clear hb1
  cases xp
  · go_wp2_with fail
    go_ret2
    have hx : x = 11 := by rw [← HX.out]; unfold newE; rw [if_pos HXP.out]
    subst hx
    exact ⟨HB1.out, none, rfl, fun h => absurd h (by decide), fun _ => rfl⟩
  · go_wp2_with fail
    refine (unlike_any w.heap.size w1 HB1.out.size).mono ?_
    rintro e w2 ⟨fv, rfl, hu, hb2⟩
    have HB2 := Lib.hid (HB1.out.trans (hb2.mono HB1.out.size))
    have HU := Lib.hid hu
    clear hb2 hu
    obtain ⟨xn, hxn⟩ : ∃ xn, decide L.Nodup = xn := ⟨_, rfl⟩
    have HXN := Lib.hid hxn
    clear hxn
    go_wp2_with fail
    refine (all_unlike w.heap.size fv _ L xn w2 HU.out HB2.out.size (HV.out.below HB2.out (Nat.le_refl _)) (fun h w' hb => HV.out.below (HB2.out.trans hb) (Nat.le_refl _)) HML'.out HS.out HXN.out).mono ?_
    rintro e w3 ⟨rfl, hb3⟩
    have HB3 := Lib.hid (HB2.out.trans hb3)
    clear hb3
    cases xn
    · go_wp2_with fail
      go_ret2
      have hx : x = 10 := by rw [← HX.out]; unfold newE; rw [if_neg (by rw [HXP.out]; decide), if_pos HXN.out]
      subst hx
      exact ⟨HB3.out, none, rfl, fun h => absurd h (by decide), fun _ => rfl⟩
    · by_cases h4 : 4 < n
      · go_wp2_with fail
        go_ret2
        have hx : x = 6 := by rw [← HX.out]; unfold newE; rw [if_neg (by rw [HXP.out]; decide), if_neg (by rw [HXN.out]; decide), if_pos (by rw [← HN.out]; exact h4)]
        subst hx
        exact ⟨HB3.out, none, rfl, fun h => absurd h (by decide), fun _ => rfl⟩
      · have hx : x = 0 := by rw [← HX.out]; unfold newE; rw [if_neg (by rw [HXP.out]; decide), if_neg (by rw [HXN.out]; decide), if_neg (by rw [← HN.out]; exact h4)]
        subst hx
        go_wp2_with fail
        have hcl := clone_any (.slice a n cap) L w3 (HV.out.below HB3.out (Nat.le_refl _)) (by rw [← HN.out]; exact hl)
        refine hcl.mono ?_
        rintro e w4 ⟨v0, rfl, hs0, hcp, hb4⟩
        obtain ⟨p0, c0, e0⟩ := hs0.form
        rw [← HN.out] at e0
        subst e0
        have HB4 := Lib.hid (HB3.out.trans (hb4.mono HB3.out.size))
        have HS0 := Lib.hid hs0
        have HCP := Lib.hid hcp
        clear hb4 hs0 hcl hcp
        go_wp2_with fail
        have HFB4 : Hid ((w4.alloc (.cells #[.slice p0 n c0, .slice none 0 0] 39)).heap[w4.heap.size]? = some (.cells #[.slice p0 n c0, .slice none 0 0] 39 (0, 0))) := Lib.hid (heap_alloc_new w4 _)
        have HB5 : Hid (Below w.heap.size w (w4.alloc (.cells #[.slice p0 n c0, .slice none 0 0] 39))) := Lib.hid (HB4.out.alloc HB4.out.size _)
        have HS5 : Hid (Strs (w4.alloc (.cells #[.slice p0 n c0, .slice none 0 0] 39)) 0 (.slice p0 n c0) L) := Lib.hid (HS0.out.below ((Below.refl _ _).alloc (Nat.le_refl _) _) (Nat.le_refl _))
        obtain ⟨fb, hfb⟩ : ∃ fb, fb = w4.heap.size := ⟨_, rfl⟩
        have HFE := Lib.hid hfb
        have HF0 : Hid (fb < (w4.alloc (.cells #[.slice p0 n c0, .slice none 0 0] 39)).heap.size) := Lib.hid (by simp [hfb, go_sem])
        have HFW : Hid (w.heap.size ≤ fb) := Lib.hid (by rw [hfb]; exact HB4.out.size)
        have HN5 : Hid ((w4.alloc (.cells #[.slice p0 n c0, .slice none 0 0] 39)).ownsRow (fb + 1) 3 1 (.slice none 0 0) 0 []) := Lib.hid (World.ownsRow_nil _ _ _ _)
        rw [← hfb] at HFB4 ⊢
        clear hfb
        have HBF : Hid (Below fb w4 (w4.alloc (.cells #[.slice p0 n c0, .slice none 0 0] 39))) := Lib.hid ((Below.refl _ _).alloc (Nat.le_of_eq HFE.out) _)
        have HSF : Hid (∀ w', Below fb w4 w' → Strs w' 0 (.slice p0 n c0) L) := Lib.hid (fun w' hb => HS0.out.below hb (Nat.le_of_eq HFE.out.symm))
        have HBW : Hid (∀ w', Below fb w4 w' → Below w.heap.size w w') := Lib.hid (fun w' hb => HB4.out.trans (hb.mono HFW.out))
        clear HS5 HB5
        obtain ⟨w5, hw5⟩ : ∃ w5, w5 = w4.alloc (.cells #[.slice p0 n c0, .slice none 0 0] 39) := ⟨_, rfl⟩
        rw [← hw5] at HFB4 HF0 HN5 HBF ⊢
        clear hw5
        go_loopw [23] (fun i wr => ∃ k : Nat, k ≤ n ∧ i = .int .i64 k ∧ ∃ v1, wr.heap[fb]? = some (.cells #[.slice p0 n c0, v1] 39 (0, 0)) ∧ wr.ownsRow (fb + 1) 3 1 v1 ((L.take k).map hashB).length (((L.take k).map hashB).map (Value.int .i64)) ∧ Below fb w4 wr) (fun i _ => n - (intOf i).toNat)
        case atStart => exact ⟨0, Nat.zero_le _, rfl, _, HFB4.out, HN5.out, HBF.out⟩
        case round =>
          obtain ⟨k, hk, rfl, v1, hf1, ho1, hb⟩ := hrel
          have HB := Lib.hid hb
          have HFB1 := Lib.hid hf1
          have HO1 := Lib.hid ho1
          clear hb hf1 ho1
          by_cases hlt : k < n
          · have hltL : k < L.length := by rw [← HN.out]; exact hlt
            obtain ⟨b0, o0, rfl, hck⟩ := (HV.out.below (HBW.out _ HB.out) (Nat.le_refl _)).cellAt hltL
            obtain ⟨s, hse⟩ : ∃ s, s = L.getD k ⟨#[]⟩ := ⟨_, rfl⟩
            have hin : s ∈ L := by rw [hse]; simp [List.getD_eq_getElem?_getD, List.getElem?_eq_getElem hltL]
            have HSL : Hid (∀ t ∈ [s], t.size ≤ maxLen) := Lib.hid (fun t ht => by rw [List.mem_singleton.1 ht]; exact HS.out s hin)
            have htk := take_snoc' L hltL
            rw [← hse] at hck htk
            have HTK := Lib.hid htk
            clear hse hin htk hltL
            obtain ⟨h, hh⟩ : ∃ h, hashB s = h := ⟨_, rfl⟩
            have HH := Lib.hid hh
            obtain ⟨hs, hhs⟩ : ∃ hs, hs = (L.take k).map hashB := ⟨_, rfl⟩
            have HSN : Hid ((L.take (k + 1)).map hashB = hs ++ [h]) := Lib.hid (by rw [HTK.out, List.map_append, hhs, List.map_cons, hh]; rfl)
            rw [← hhs] at HO1
            have hhl : hs.length ≤ 1000000 := by rw [hhs, List.length_map, List.length_take]; omega
            clear hhs hh
            obtain ⟨WA, hWA⟩ : ∃ W, W = wr.alloc (.cells #[.string s] 9) := ⟨_, rfl⟩
            obtain ⟨WB, hWB⟩ : ∃ W, W = WA.alloc (.cells #[.int .i64 h] 3) := ⟨_, rfl⟩
            have hfA : WA.heap[fb]? = some (.cells #[.slice p0 n c0, v1] 39 (0, 0)) := by rw [hWA]; exact ((Go.MapKept.heap_alloc _ _).2 fb (Array.getElem?_eq_some_iff.1 HFB1.out).1).trans HFB1.out
            have hfB : WB.heap[fb]? = some (.cells #[.slice p0 n c0, v1] 39 (0, 0)) := by rw [hWB]; exact ((Go.MapKept.heap_alloc _ _).2 fb (Array.getElem?_eq_some_iff.1 hfA).1).trans hfA
            have c0f : wr.cell? ⟨fb, 1, none⟩ = some v1 := by have := HFB1.out; simp [World.cell?, this]
            have cAf : WA.cell? ⟨fb, 1, none⟩ = some v1 := by simp [World.cell?, hfA]
            have cBf : WB.cell? ⟨fb, 1, none⟩ = some v1 := by simp [World.cell?, hfB]
            have hsA : Strs WA.drew 0 (.slice (some ⟨wr.heap.size, 0, none⟩) 1 1) [s] := ⟨_, _, rfl, .inr ⟨_, _, rfl, Nat.zero_le _, fun i hi => by
              obtain rfl : i = 0 := by simpa using hi
              show WA.cell? _ = _
              rw [hWA]
              simp [go_sem]⟩⟩
            have hoB : WB.ownsRow (fb + 1) 3 1 v1 hs.length (hs.map (Value.int .i64)) := by rw [hWB, hWA]; exact (HO1.out.alloc _).alloc _
            have hkB : WB.cell? ⟨WA.heap.size, 0, none⟩ = some (.int .i64 h) := by rw [hWB]; simp [go_sem]
            have hbB : Below fb w4 WB := by rw [hWB, hWA]; have h1 := HB.out.size; have h2 := HFE.out; exact (HB.out.alloc (by omega) _).alloc (by simp [go_sem]; omega) _
            have hfbB := (Array.getElem?_eq_some_iff.1 hfB).1
            have HAP : Hid (∀ ty, ∃ v' w', (Builtin.append_ #[37, 37] ty #[v1, .slice (some ⟨WA.heap.size, 0, none⟩) 1 1]).run Tryd.prog WB.drew = .ok v' w' ∧ AppI (fb + 1) WB v1 hs h v' w') := Lib.hid (fun ty => by obtain ⟨v', w', a1, a2⟩ := append_int WB.drew (c := 1) hoB hkB hhl hfbB ty; exact ⟨v', w', a1, a2.1, hoB, ⟨a2.2.2.os, a2.2.2.tape, a2.2.2.output, a2.2.2.size, a2.2.2.block⟩⟩)
            have HL1 : Hid ([s].length ≤ maxLen) := Lib.hid (by show 1 ≤ maxLen; unfold maxLen; omega)
            have HST := Lib.hid hsA
            have HFB := Lib.hid hfB
            have HWA := Lib.hid hWA
            have HWB := Lib.hid hWB
            have HWB2 := Lib.hid hbB
            clear hWA hWB hfA hfB hsA hoB hkB hbB hhl hfbB
            go_wp2_with fail
            rename_i Kc hc
            refine region_ph (n := 41) 12 [6, 7, 8, 9, 12] rfl rfl (by kernel_rfl) (by kernel_rfl) (by kernel_rfl) (fun i v => match i with | 0 => v = .pointer (some ⟨fb, 0, none⟩) | 1 => v = .pointer (some ⟨fb, 0, none⟩) | 2 => v = .pointer (some ⟨fb, 0, none⟩) | 3 => v = .pointer (some ⟨fb, 1, none⟩) | 4 => v = v1 | 5 => v = .string s | 6 => v = .slice (some ⟨wr.heap.size, 0, none⟩) 1 1 | 7 => v = .int .i64 h | 8 => v = .slice (some ⟨WA.heap.size, 0, none⟩) 1 1 | 10 => v = .pointer (some ⟨fb, 0, none⟩) | 11 => v = .pointer (some ⟨fb, 1, none⟩) | _ => True)
              (fun p f w' => match p with | 0 => wr.drew = w' | 1 => WA.drew = w' | 2 => WA.drew = w' | 3 => WB.drew = w' | 4 => AppI (fb + 1) WB v1 hs h (f 36) w' | _ => ∃ w1 v', AppI (fb + 1) WB v1 hs h v' w1 ∧ w1.setCell ⟨fb, 1, none⟩ v' = w') ?_ ?_ ?_
            · exact rfl
            · simp only [AllAt]
              refine ⟨?_, ?_, ?_, ?_, ?_, ?_, ?_, ?_, ?_, ?_, ?_, ?_, ?_, trivial⟩
              · refine StepPh.reg rfl (by decide) (fun d hd => by cases hd; decide) ?_
                intro f w' p hG hup hdn hfr hp K hK
                have g4 : f 4 = .pointer (some ⟨fb, 0, none⟩) := hfr 4 (by kernel_rfl)
                clear hfr hp hup hdn
                go_simp
                exact hK _ _ rfl hG
              · refine StepPh.reg rfl (by decide) (fun d hd => by cases hd; decide) ?_
                intro f w' p hG hup hdn hfr hp K hK
                have g4 : f 4 = .pointer (some ⟨fb, 0, none⟩) := hfr 4 (by kernel_rfl)
                clear hfr hp hup hdn
                go_simp
                exact hK _ _ rfl hG
              · refine StepPh.reg rfl (by decide) (fun d hd => by cases hd; decide) ?_
                intro f w' p hG hup hdn hfr hp K hK
                have g28 : f 28 = .pointer (some ⟨fb, 0, none⟩) := hp 1 _ 28 rfl rfl (by kernel_rfl)
                clear hfr hp hup hdn
                go_simp
                exact hK _ _ rfl hG
              · refine StepPh.reg rfl (by decide) (fun d hd => by cases hd; decide) ?_
                intro f w' p hG hup hdn hfr hp K hK
                have g29 : f 29 = .pointer (some ⟨fb, 0, none⟩) := hp 2 _ 29 rfl rfl (by kernel_rfl)
                clear hfr hp hup hdn
                go_simp
                exact hK _ _ rfl hG
              · refine StepPh.reg rfl (by decide) (fun d hd => by cases hd; decide) ?_
                intro f w' p hG hup hdn hfr hp K hK
                have g30 : f 30 = .pointer (some ⟨fb, 1, none⟩) := hp 3 _ 30 rfl rfl (by kernel_rfl)
                have hpp : p = 0 ∨ p = 1 ∨ p = 2 ∨ p = 3 := by have := hdn 3 (by decide) (.inl (by kernel_rfl)); omega
                clear hfr hp hup hdn
                rcases hpp with rfl | rfl | rfl | rfl
                · have hGe : wr.drew = w' := hG
                  subst hGe
                  go_simp
                  exact hK _ _ rfl hG
                · have hGe : WA.drew = w' := hG
                  subst hGe
                  go_simp
                  exact hK _ _ rfl hG
                · have hGe : WA.drew = w' := hG
                  subst hGe
                  go_simp
                  exact hK _ _ rfl hG
                · have hGe : WB.drew = w' := hG
                  subst hGe
                  go_simp
                  exact hK _ _ rfl hG
              · refine StepPh.reg rfl (by decide) (fun d hd => by cases hd; decide) ?_
                intro f w' p hG hup hdn hfr hp K hK
                have g6 : f 6 = .string s := hfr 6 (by kernel_rfl)
                clear hfr hp hup hdn
                go_simp
                exact hK _ _ rfl hG
              · refine StepPh.wr 0 rfl (by decide) rfl (fun d hd => by cases hd; decide) (fun j hj => by omega) ?_
                intro f w' hG hfr hp K hK
                have g32 : f 32 = .string s := hp 5 _ 32 rfl rfl (by kernel_rfl)
                clear hfr hp
                have hGe : wr.drew = w' := hG
                subst hGe
                go_simp
                exact hK _ _ (fun _ => rfl) (by show WA.drew = _; rw [HWA.out])
              · refine StepPh.wr 1 rfl (by decide) rfl (fun d hd => by cases hd; decide) (fun j hj => by (obtain rfl : j = 0 := (by omega)); kernel_rfl) ?_
                intro f w' hG hfr hp K hK
                have g33 : f 33 = .slice (some ⟨wr.heap.size, 0, none⟩) 1 1 := hp 6 _ 33 rfl rfl (by kernel_rfl)
                clear hfr hp
                have hGe : WA.drew = w' := hG
                subst hGe
                go_simp
                refine (hash_any _ [s] _ HST.out HL1.out HSL.out).mono ?_
                rintro en w1 ⟨rfl, rfl⟩
                refine hK _ _ (fun _ => ?_) rfl
                show _ = Value.int .i64 h
                rw [← HH.out]
                rfl
              · refine StepPh.wr 2 rfl (by decide) rfl (fun d hd => by cases hd; decide) (fun j hj => by rcases (by omega : j = 0 ∨ j = 1) with rfl | rfl <;> kernel_rfl) ?_
                intro f w' hG hfr hp K hK
                have g34 : f 34 = .int .i64 h := hp 7 _ 34 rfl rfl (by kernel_rfl)
                clear hfr hp
                have hGe : WA.drew = w' := hG
                subst hGe
                go_simp
                exact hK _ _ (fun _ => by simp [go_sem]) (by show WB.drew = _; rw [HWB.out])
              · refine StepPh.wr 3 rfl (by decide) rfl (fun d hd => by cases hd; decide) (fun j hj => by rcases (by omega : j = 0 ∨ j = 1 ∨ j = 2) with rfl | rfl | rfl <;> kernel_rfl) ?_
                intro f w' hG hfr hp K hK
                have g31 : f 31 = v1 := hp 4 _ 31 rfl rfl (by kernel_rfl)
                have g35 : f 35 = .slice (some ⟨WA.heap.size, 0, none⟩) 1 1 := hp 8 _ 35 rfl rfl (by kernel_rfl)
                clear hfr hp
                have hGe : WB.drew = w' := hG
                subst hGe
                obtain ⟨v', w2, hrun, hap⟩ := HAP.out 37
                unfold Oper.wp
                simp [execOp, resolve, invoke, builtin, fr_eval, g31, g35, hrun, Result.andThen]
                exact hK _ _ (fun _ => trivial) hap
              · refine StepPh.reg rfl (by decide) (fun d hd => by cases hd; decide) ?_
                intro f w' p hG hup hdn hfr hp K hK
                have g27 : f 27 = .pointer (some ⟨fb, 0, none⟩) := hp 0 _ 27 rfl rfl (by kernel_rfl)
                clear hfr hp hup hdn
                go_simp
                exact hK _ _ rfl hG
              · refine StepPh.reg rfl (by decide) (fun d hd => by cases hd; decide) ?_
                intro f w' p hG hup hdn hfr hp K hK
                have g37 : f 37 = .pointer (some ⟨fb, 0, none⟩) := hp 10 _ 37 rfl rfl (by kernel_rfl)
                clear hfr hp hup hdn
                go_simp
                exact hK _ _ rfl hG
              · refine StepPh.wr 4 rfl (by decide) rfl (fun d hd => by cases hd) (fun j hj => by rcases (by omega : j = 0 ∨ j = 1 ∨ j = 2 ∨ j = 3) with rfl | rfl | rfl | rfl <;> kernel_rfl) ?_
                intro f w' hG hfr hp K hK
                have g38 : f 38 = .pointer (some ⟨fb, 1, none⟩) := hp 11 _ 38 rfl rfl (by kernel_rfl)
                clear hfr hp
                have hG1 : AppI (fb + 1) WB v1 hs h (f 36) w' := hG
                obtain ⟨p', c', g36⟩ := own_slice hG1.1
                rw [g36] at hG1
                have hcell := hG1.cell HFB.out
                have hfz := hG1.free HFB.out
                go_simp
                exact hK undef _ (fun h => by cases h) ⟨w', _, hG1, by simp⟩
            · intro f w1 hG hfr hR
              refine hc _ _ ?_
              clear hR
              obtain ⟨wp, v', hP, rfl⟩ := hG
              have hback := fr_back (n := 41) (f := f) (D := [27, 28, 29, 30, 31, 32, 33, 34, 35, 36, 37, 38]) rfl (by kernel_rfl) hfr
              rw [hback]
              simp only [mixL, List.elem_eq_contains, List.contains_cons, List.contains_nil, Nat.reduceBEq, Nat.reduceAdd, Bool.or_false, Bool.or_true, Bool.false_or, Bool.true_or, cond_false, cond_true, Bool.or_self, Nat.zero_add]
              clear hback hfr
              have hF := hP.filed HFB.out
              have hbl : Below fb w4 (wp.setCell ⟨fb, 1, none⟩ v') := hP.below HFB.out HWB2.out
              have HP := Lib.hid hP
              have HF := Lib.hid hF
              have HBL := Lib.hid hbl
              clear hP hF hbl
              generalize wp.setCell ⟨fb, 1, none⟩ v' = W9 at *
              go_wp2_with fail
              refine ⟨⟨k + 1, by omega, by go_num, v', HF.out.1, ?_, HBL.out⟩, by simp [intOf]; omega⟩
              have := HF.out.2
              rw [HSN.out]
              exact this
          · obtain rfl : k = n := by omega
            go_wp2_with fail
            go_ret2
            refine ⟨HBW.out _ HB.out, _, rfl, fun _ => ⟨fb, rfl, _, _, HFB1.out, HSF.out _ HB.out, HCP.out, ?_⟩, fun h => absurd rfl h⟩
            have := ints_own HO1.out
            rw [HN.out, List.take_length] at this
            exact this
end Go.Proofs.YtdhpemkmfkcadaaDoor
