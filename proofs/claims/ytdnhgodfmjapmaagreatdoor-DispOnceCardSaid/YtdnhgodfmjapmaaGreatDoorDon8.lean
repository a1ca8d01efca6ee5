/- A part. -/
import Derived.Test.YtdnhgodfmjapmaaGreatDoorDon6
set_option linter.unusedVariables false
set_option linter.unusedSimpArgs false
namespace Go.Proofs.YtdnhgodfmjapmaaGreatDoor.Oc
open Go.RowKit Go.Deep
def TxtsPost (w : World) (B : Nat) (l : List UInt8) (e : Ending) (w' : World) : Prop := ∃ v, e = .returned (.tuple #[v, .int .i64 0]) ∧ Bys w' B v l ∧ Below B w w'
theorem bys_str {w : World} {B : Nat} {v : Value} {l : List UInt8} {t : ByteArray} (h : w.ownsRow B 5 1 v (l.length + t.size) (l.map by8 ++ Lib.strCells t)) : Bys w B v (l ++ t.data.toList) := by
  unfold Bys
  rw [List.length_append, List.map_append]
  exact h
set_option maxHeartbeats 1000000 in
set_option maxRecDepth 100000 in
theorem appendTexts_ok (B : Nat) (v u : Value) (l : List UInt8) (ts : List ByteArray) (w : World) (hl : l.length ≤ 1000000) (hn : ts.length ≤ 1000) (hs : ∀ t ∈ ts, t.size ≤ 65535) (h : Bys w B v l) (hB' : B ≤ w.heap.size) (hU : ∀ w', Below B w w' → Strs w' 0 u ts) :
    Calls Tryz.prog 221 #[v, u] w (TxtsPost w B (l ++ ts.flatMap txtB)) := by
  obtain ⟨i0, hi, hz0, hz1, hz2⟩ := info_parts info5
  have H := Lib.hid h
  have HU := Lib.hid hU
  have HS := Lib.hid hs
  obtain ⟨a, cap, rfl⟩ := (hU w (Below.refl _ _)).form
  clear h hU hs
  go_enter Tryz.func221, Tryz.ntmps221
  go_wp2_with fail
  go_loopw [0, 10] (fun b i wr => ∃ k : Nat, k ≤ ts.length ∧ i = .int .i64 k ∧ Bys wr B b (l ++ (ts.take k).flatMap txtB) ∧ Below B w wr) (fun _ i _ => ts.length - (intOf i).toNat)
  case atStart => exact ⟨0, Nat.zero_le _, rfl, by simpa using H.out, Below.refl _ _⟩
  case round =>
    obtain ⟨k, hk, rfl, hown, hbel⟩ := hrel
    have HOWN := Lib.hid hown
    have HBEL := Lib.hid hbel
    clear hown hbel
    by_cases hlt : k < ts.length
    · obtain ⟨b, o, rfl, hck⟩ := (HU.out _ HBEL.out).cellAt hlt
      have hsz := HS.out (ts.getD k ⟨#[]⟩) (by simp [List.getD_eq_getElem?_getD, List.getElem?_eq_getElem hlt])
      have hsn := flat_snoc ts k hlt
      have hLl : (l ++ (ts.take k).flatMap txtB).length ≤ 200000000 := by
        rw [List.length_append]
        have := flat_length (ts.take k) fun t ht => Nat.le_trans (HS.out t (List.mem_of_mem_take ht)) (by decide)
        have e : (ts.take k).length = k := by rw [List.length_take]; omega
        rw [e] at this
        omega
      obtain ⟨t, ht⟩ : ∃ t, t = ts.getD k ⟨#[]⟩ := ⟨_, rfl⟩
      rw [← ht] at hck hsz hsn
      have HSN := Lib.hid hsn
      obtain ⟨L, hL⟩ : ∃ L, L = l ++ (ts.take k).flatMap txtB := ⟨_, rfl⟩
      rw [← hL] at HOWN hLl
      have HL := Lib.hid hL
      have HT := Lib.hid ht
      clear ht hsn hL
      go_wp2_with fail
      refine (appendNum_any B _ L 2 t.size wr (by omega) (by omega) (by omega) HOWN.out (Nat.le_trans hB' HBEL.out.size)).mono ?_
      rintro e w2 ⟨v2, rfl, hown2, hbel2⟩
      obtain ⟨M, hM⟩ : ∃ M, M = L ++ numB 2 t.size := ⟨_, rfl⟩
      have hlen2 : M.length ≤ 200000002 := by rw [hM, List.length_append, numB_length]; omega
      rw [← hM] at hown2
      have HM := Lib.hid hM
      have HOWN2 := Lib.hid hown2
      have HBEL2 := Lib.hid (HBEL.out.trans hbel2)
      clear hown2 hbel2 hM
      go_wp2_with (at_builtin; go_must (refine Lib.wpList_append_own_string _ rfl _ _ 183 9 rfl B 5 i0 Tryz.underlying183 Tryz.underlying9 hi hz0 hz1 hz2 _ _ _ rfl HOWN2.out t rfl ?c3 ?c4 ?c5 ?_))
      case c3 => unfold maxLen; omega
      case c4 => omega
      case c5 => exact Nat.le_trans hB' HBEL2.out.size
      intro v' w1 hown' hgrow _
      have HOWN3 := Lib.hid (bys_str hown')
      have HBEL3 := Lib.hid (HBEL2.out.grown hgrow (Nat.le_trans hB' HBEL2.out.size) (fun k hk => (HOWN2.out.lt k hk).1))
      clear hown' hgrow
      go_wp2_with fail
      go_roundw
      case rel => exact ⟨k + 1, by omega, by go_num, by rw [HSN.out, txtB, ← List.append_assoc, ← List.append_assoc, ← HL.out, ← HM.out]; exact HOWN3.out, HBEL3.out⟩
      case measure => simp [intOf]; omega
    · obtain rfl : k = ts.length := by omega
      go_wp2_with fail
      go_ret2
      refine ⟨_, rfl, ?_, HBEL.out⟩
      have := HOWN.out
      rwa [List.take_of_length_le (Nat.le_refl _)] at this
theorem Strs.all {w : World} {u : Value} {ts : List ByteArray} (h : Strs w 0 u ts) : ∀ w', Below w.heap.size w w' → Strs w' 0 u ts := fun _ hb => h.below hb (Nat.le_refl _)
theorem textW_ok (u : Value) (ts : List ByteArray) (w : World) (hn : ts.length ≤ 1000) (hs : ∀ t ∈ ts, t.size ≤ 65535) (hu : Strs w 0 u ts) :
    Calls Tryz.prog 168 #[u] w fun e w' => e = .returned (.tuple #[.string ⟨(ts.flatMap txtB).toArray⟩, .int .i64 0]) ∧ Below w.heap.size w w' := by
  have HU := Lib.hid hu
  have HS := Lib.hid hs
  clear hu hs
  go_enter Tryz.func168, Tryz.ntmps168
  go_wp2_with fail
  refine (appendTexts_ok w.heap.size (.slice none 0 0) u [] ts w (by simp) hn HS.out (World.ownsRow_nil _ _ _ _) (Nat.le_refl _) HU.out.all).mono ?_
  rintro e w1 ⟨v, rfl, hv, hb⟩
  rw [List.nil_append] at hv
  have hconv := bys_string hv
  have HB := Lib.hid hb
  clear hb hv
  go_wp2_with fail
  go_ret2
  exact ⟨rfl, HB.out⟩
theorem listW_ok (u : Value) (ts : List ByteArray) (w : World) (hn : ts.length ≤ 255) (hs : ∀ t ∈ ts, t.size ≤ 65535) (hu : Strs w 0 u ts) :
    Calls Tryz.prog 169 #[u] w fun e w' => e = .returned (.tuple #[.string ⟨(listB ts).toArray⟩, .int .i64 0]) ∧ Below w.heap.size w w' := by
  have HU := Lib.hid hu
  have HS := Lib.hid hs
  obtain ⟨a, cap, rfl⟩ := hu.form
  clear hu hs
  go_enter Tryz.func169, Tryz.ntmps169
  go_wp2_with fail
  refine (appendNum_any w.heap.size (.slice none 0 0) [] 1 ts.length w (by omega) (by omega) (by simp) (World.ownsRow_nil _ _ _ _) (Nat.le_refl _)).mono ?_
  rintro e w1 ⟨v, rfl, hv, hb⟩
  rw [List.nil_append] at hv
  have HV := Lib.hid hv
  have HB := Lib.hid hb
  clear hb hv
  go_wp2_with fail
  refine (appendTexts_ok w.heap.size v _ (numB 1 ts.length) ts w1 (by rw [numB_length]; omega) (by omega) HS.out HV.out HB.out.size (fun w' hb => HU.out.all w' (HB.out.trans hb))).mono ?_
  rintro e w2 ⟨v2, rfl, hv, hb⟩
  have hconv := bys_string hv
  rw [show numB 1 ts.length ++ ts.flatMap txtB = listB ts from rfl] at hconv
  have HB2 := Lib.hid (HB.out.trans hb)
  clear hb hv
  go_wp2_with fail
  go_ret2
  exact ⟨rfl, HB2.out⟩
theorem textS_read (t : ByteArray) (r : List UInt8) (most : Int) (h : (t.size : Int) ≤ most) (h2 : t.size ≤ 65535) : textS ⟨(txtB t ++ r).toArray⟩ most = (t, ⟨r.toArray⟩, 0) := by
  have hn := numS_read 2 t.size (by omega) (by omega) (by omega) (t.data.toList ++ r)
  rw [show ((2 : Nat) : Int) = 2 from rfl] at hn
  rw [textS, txtB, List.append_assoc, hn]
  have hc := cutS_read t.data.toList r
  rw [show t.data.toList.length = t.size from rfl] at hc
  simp only [if_true]
  rw [if_neg (by omega), hc]
theorem textsS_read (most : Int) : ∀ (ts : List ByteArray) (acc : List ByteArray) (r : List UInt8), (∀ t ∈ ts, (t.size : Int) ≤ most ∧ t.size ≤ 65535) → textsS most ts.length ⟨(ts.flatMap txtB ++ r).toArray⟩ acc = (acc ++ ts, ⟨r.toArray⟩, 0) := by
  intro ts
  induction ts with
  | nil => intro acc r _; simp [textsS]
  | cons t ts ih =>
    intro acc r h
    rw [List.flatMap_cons, List.append_assoc, List.length_cons, textsS, textS_read t _ most (h t List.mem_cons_self).1 (h t List.mem_cons_self).2]
    simp only [if_true]
    rw [ih _ _ fun x hx => h x (List.mem_cons_of_mem _ hx)]
    simp
theorem listS_read (ts : List ByteArray) (r : List UInt8) (many most : Int) (hm : (ts.length : Int) ≤ many) (hl : ts.length ≤ 255) (h : ∀ t ∈ ts, (t.size : Int) ≤ most ∧ t.size ≤ 65535) : listS ⟨(listB ts ++ r).toArray⟩ many most = (ts, ⟨r.toArray⟩, 0) := by
  have hn := numS_read 1 ts.length (by omega) (by omega) (by omega) (ts.flatMap txtB ++ r)
  rw [show ((1 : Nat) : Int) = 1 from rfl] at hn
  rw [listS, listB, List.append_assoc, hn]
  simp only [if_true]
  rw [if_neg (by omega), textsS_read most ts [] r h]
  rfl
end Go.Proofs.YtdnhgodfmjapmaaGreatDoor.Oc
