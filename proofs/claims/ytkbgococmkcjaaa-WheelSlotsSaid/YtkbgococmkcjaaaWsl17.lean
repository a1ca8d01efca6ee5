/- A part. -/
import Derived.Deep.AppendLies
import Derived.Test.YtkbgococmkcjaaaWsl16
set_option linter.unusedVariables false
set_option linter.unusedSimpArgs false
namespace Go.Proofs.Ytkbgococmkcjaaa
open Go.RowKit Go.Deep
attribute [local go_sem] fr_opt
theorem winfo_num : (Try.prog.info? 3).map (fun i => (i.zero, i.size, i.bytes)) = some (some (.int .i64 0), 1, 8) := by kernel_rfl
theorem wbytes_drop {L : List Nat} {k : Nat} (h : k < L.length) : wbytes (L.drop k) = Oc.numB 6 (L.getD k 0) ++ wbytes (L.drop (k + 1)) := by
  rw [List.getD_eq_getElem?_getD, List.getElem?_eq_getElem h]
  rw [← List.getElem_cons_drop h]
  rfl
theorem wown_slice {w : World} {base : Nat} {t : TypeId} {v : Value} {n : Nat} {xs : List Value} (h : w.ownsRow base t 1 v (n + 1) xs) : ∃ q c, v = .slice (some ⟨q, 0, none⟩) (n + 1) c := by
  rcases h.2 with ⟨_, h0⟩ | ⟨g, cap, cur, e1, _⟩
  · omega
  · exact ⟨_, _, e1⟩
theorem wown_base {w : World} {b b' : Nat} {t : TypeId} {s : Nat} {v : Value} {n : Nat} {xs : List Value} (h : w.ownsRow b t s v n xs) (hb : b' ≤ b) : w.ownsRow b' t s v n xs := by
  refine ⟨h.1, ?_⟩
  rcases h.2 with h0 | ⟨g, cap, cur, e1, e2, rest⟩
  · exact .inl h0
  · exact .inr ⟨g, cap, cur, e1, Nat.le_trans hb e2, rest⟩
def wNum (x : Nat) : Value := .int .i64 (x : Nat)
theorem wtake_snoc {L : List Nat} {k : Nat} (h : k < L.length) : (L.take (k + 1)).map wNum = (L.take k).map wNum ++ [.int .i64 (L.getD k 0 : Nat)] := by
  rw [List.take_add_one, List.getElem?_eq_getElem h, List.map_append, List.getD_eq_getElem?_getD, List.getElem?_eq_getElem h]
  rfl
def WHeadsTo (w : World) (L : List Nat) (e : Ending) (w' : World) : Prop :=
  ∃ v, e = .returned (.tuple #[v, .int .i64 0]) ∧ w'.ownsRow w.heap.size 3 1 v 16 (L.map wNum) ∧ Below w.heap.size w w'
set_option maxHeartbeats 2000000 in
set_option maxRecDepth 100000 in
theorem wheads_any {w0 w : World} {wb : Nat} {g : Gh} {st : St} {n : Nat} {hd : Int} {L : List Nat} (h : WhI w0 w wb g st n hd L) :
    Calls Try.prog 16 #[.pointer (some ⟨wb, 0, none⟩)] w (WHeadsTo w L) := by
  obtain ⟨f, hf, hfb⟩ := h.file
  have hlen := wbytes_length L
  have hL16 := h.len
  have hR := wread_ok g st wS f 0 96 w h.disk (by decide) h.ease.down hf (by omega) (by rw [hfb, hlen]; omega) (by rw [hfb, hlen]; omega)
  rw [hfb, List.drop_zero, List.take_of_length_le (by omega)] at hR
  have hok := h.ok
  have hN : ∀ k, k < 16 → Oc.numS ⟨(wbytes (L.drop k)).toArray⟩ 6 = (L.getD k 0, ⟨(wbytes (L.drop (k + 1))).toArray⟩, 0) := fun k hk => by
    rw [wbytes_drop (by omega)]
    refine Oc.numS_read 6 (L.getD k 0) (by decide) (by decide) ?_ _
    show _ < 281474976710656
    rw [List.getD_eq_getElem?_getD, List.getElem?_eq_getElem (by omega)]
    exact hok _ (List.getElem_mem _)
  have hT : ∀ k, k < 16 → (L.take (k + 1)).map wNum = (L.take k).map wNum ++ [.int .i64 (L.getD k 0 : Nat)] := fun k hk => wtake_snoc (by omega)
  have hE : (L.take 16).map wNum = L.map wNum := by rw [List.take_of_length_le (by omega)]
  obtain ⟨c0, c1, hz⟩ := h.cells
  obtain ⟨s, hsd⟩ : ∃ s : ByteArray, s = ⟨(wbytes L).toArray⟩ := ⟨_, rfl⟩
  rw [← hsd] at hR
  have hs0 : s = ⟨(wbytes (L.drop 0)).toArray⟩ := by rw [hsd, List.drop_zero]
  obtain ⟨i0, hi, hz0, hz1, hz2⟩ := info_parts winfo_num
  have HR := Lib.hid hR
  have HN := Lib.hid hN
  have HT := Lib.hid hT
  have HE := Lib.hid hE
  have HS := Lib.hid hs0
  clear hR hN hT hE hs0 hsd hf hfb hlen hL16 hok h c1 hz
  go_enter Try.func16, Try.ntmps16
  go_wp2_with fail
  refine HR.out.mono ?_
  rintro e w2 ⟨rfl, hb2⟩
  have HB2 := Lib.hid hb2
  clear hb2
  go_wp2_with fail
  refine (Oc.new_any s w2).mono ?_
  rintro e w3 ⟨rfl, rfl⟩
  have hrd : Oc.Rd (w2.alloc (.cells #[.string s, .int .i64 0] 95)) w2.heap.size s 0 := heap_alloc_new w2 _
  have HRD := Lib.hid hrd
  have HB3 := Lib.hid (HB2.out.alloc HB2.out.size (.cells #[.string s, .int .i64 0] 95))
  obtain ⟨R, hRe⟩ : ∃ R, R = w2.heap.size := ⟨_, rfl⟩
  have HRE : Hid (w.heap.size ≤ R) := Lib.hid (by rw [hRe]; exact HB2.out.size)
  have HSZ : Hid ((w2.alloc (.cells #[.string s, .int .i64 0] 95)).heap.size = R + 1) := Lib.hid (by rw [World.size_alloc, hRe])
  rw [← hRe] at HRD ⊢
  obtain ⟨W3, hW3⟩ : ∃ W, W = w2.alloc (.cells #[.string s, .int .i64 0] 95) := ⟨_, rfl⟩
  rw [← hW3] at HRD HB3 HSZ ⊢
  clear hrd hRe hW3
  go_wp2_with fail
  go_loopw [6, 23] (fun l i wr => ∃ (k : Nat) (v : Value), k ≤ 16 ∧ v = l ∧ i = .int .i64 (k : Int) ∧ Hid (wr.ownsRow (R + 1) 3 1 v k ((L.take k).map wNum)) ∧ Hid (Oc.Rd wr R ⟨(wbytes (L.drop k)).toArray⟩ 0) ∧ Hid (Below w.heap.size w wr) ∧ Hid (R + 1 ≤ wr.heap.size)) (fun _ i _ => 16 - (intOf i).toNat)
  case atStart => exact ⟨0, _, Nat.zero_le _, rfl, rfl, Lib.hid (World.ownsRow_nil _ _ _ _), by rw [HS.out] at HRD; exact HRD, HB3, Lib.hid (Nat.le_of_eq HSZ.out.symm)⟩
  case round =>
    obtain ⟨k, v, hk, rfl, rfl, HO, HRr, HBr, HZr⟩ := hrel
    by_cases hlt : k < 16
    · have hlt' : (k : Int) < 16 := by omega
      obtain ⟨x, hx⟩ : ∃ x, x = L.getD k 0 := ⟨_, rfl⟩
      have hN := HN.out k hlt
      have hT := HT.out k hlt
      rw [← hx] at hN hT
      have HC := Lib.hid (Oc.num_any R _ 6 wr HRr.out hN)
      have HTk := Lib.hid hT
      clear hN hT hx
      go_wp2_with fail
      refine HC.out.mono ?_
      rintro e w4 ⟨rfl, hr4, hg4⟩
      have hr4 : Oc.Rd w4 R ⟨(wbytes (L.drop (k + 1))).toArray⟩ 0 := hr4
      have hc4 : Chg (fun q => q = R) wr w4 := Chg.of_grown hg4 (fun q hq _ => by cases hq; rfl)
      have ho4 := hc4.row HO.out (fun q hq hx => by have := (HO.out.lt q hq).1; omega)
      have HO4 := Lib.hid ho4
      have HR4 := Lib.hid hr4
      have HB4 := Lib.hid (below_grown' HBr.out hg4 (Nat.le_refl _) HRE.out)
      have HZ4 : Hid (R + 1 ≤ w4.heap.size) := Lib.hid (Nat.le_trans HZr.out hc4.size)
      clear hr4 hg4 hc4 ho4
      go_wp2_with (at_builtin; go_must (refine wpList_append_own _ rfl (.tmp 25) (.tmp 28) 34 rfl (R + 1) 3 i0 _ 1 8 Try.underlying34 hi hz0 hz1 hz2 rfl (by decide) v k ((L.take k).map wNum) rfl (World.ownsRow.alloc HO4.out _) ⟨w4.heap.size, 0, none⟩ 1 1 [.int .i64 (x : Nat)] rfl rfl ?c1 ?c2 ?c3 ?c4 ?c5 ?c6))
      case c1 => exact cell_one_new _ _ _
      case c2 => intro u hu; simp at hu; rw [hu]; rfl
      case c3 => unfold maxLen; omega
      case c4 => omega
      case c5 => have := HZ4.out; simp; omega
      case c6 =>
        intro v' w9 hown9 hgrow9 _
        have hc9 : Chg (fun q => v.ownBlock = some q) (w4.alloc (.cells #[.int .i64 (x : Nat)] 3)) w9 := Chg.of_grown hgrow9 (fun q hx _ => hx)
        have hal : Chg (fun _ => False) w4 (w4.alloc (.cells #[.int .i64 (x : Nat)] 3)) := Chg.alloc _ (Chg.refl _ _) _
        have HR9 : Hid (Oc.Rd w9 R ⟨(wbytes (L.drop (k + 1))).toArray⟩ 0) := Lib.hid (hc9.heap (hal.heap HR4.out (fun x => x)) (fun hx => by have := (HO4.out.lt _ hx).1; omega))
        have HO9 : Hid (w9.ownsRow (R + 1) 3 1 v' (k + 1) ((L.take (k + 1)).map wNum)) := Lib.hid (by rw [HTk.out, List.map_take]; exact hown9)
        have HB9 : Hid (Below w.heap.size w w9) := Lib.hid (((HB4.out.alloc (Nat.le_trans HRE.out (by have := HZ4.out; omega)) _)).grown hgrow9 (by have := HRE.out; have := HZ4.out; rw [World.size_alloc]; omega) (fun q hx => by have := (HO4.out.lt _ hx).1; have := HRE.out; omega))
        have HZ9 : Hid (R + 1 ≤ w9.heap.size) := Lib.hid (by have := HZ4.out; have := hgrow9.size; rw [World.size_alloc] at this; omega)
        clear hc9 hal hown9 hgrow9
        go_wp2_with fail
        exact ⟨⟨k + 1, v', by omega, rfl, by go_num, HO9, HR9, HB9, HZ9⟩, by simp [intOf]; omega⟩
    · obtain rfl : k = 16 := by omega
      go_wp2_with fail
      go_ret2
      exact ⟨v, rfl, by
        have := HO.out
        rw [HE.out] at this
        exact wown_base this (by have := HRE.out; omega), HBr.out⟩
end Go.Proofs.Ytkbgococmkcjaaa
