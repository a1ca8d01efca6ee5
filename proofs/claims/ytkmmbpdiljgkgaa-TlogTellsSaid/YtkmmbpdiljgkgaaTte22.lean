/- A part. -/
import Derived.Sort.OwnSorted
import Derived.Test.YtkmmbpdiljgkgaaTte2
import Derived.Test.YtkmmbpdiljgkgaaTte17
set_option linter.unusedVariables false
set_option linter.unusedSimpArgs false
namespace Go.Proofs.Ytkmmbpdiljgkgaa
open Go.RowKit Go.Deep
def begins (head : ByteArray) (l : List Ent) : List (List UInt8) := (l.filter fun e => Lib.hasPrefix e.name.data.toList head.data.toList).map fun e => e.name.data.toList
theorem begins_snoc (head : ByteArray) (l : List Ent) (e : Ent) : begins head (l ++ [e]) = begins head l ++ (if Lib.hasPrefix e.name.data.toList head.data.toList = true then [e.name.data.toList] else []) := by
  unfold begins
  rw [List.filter_append, List.map_append]
  congr 1
  rw [List.filter_cons]
  split <;> rfl
def ListTo (g : Gh) (head : ByteArray) (w : World) (e : Ending) (w' : World) : Prop :=
  ∃ v vis, e = .returned v ∧ vis.Perm g.es ∧ w'.ownsRow w.heap.size 9 1 v (begins head vis).length (((begins head vis).mergeSort fun x y => decide (x ≤ y)).map encStr) ∧ Below w.heap.size w w'
theorem info_str : (Try.prog.info? 9).map (fun i => (i.zero, i.size, i.bytes)) = some (some (.string ⟨#[]⟩), 1, 16) := by kernel_rfl
theorem encStr_name (nm : ByteArray) : encStr nm.data.toList = .string nm := by
  show Value.string ⟨nm.data.toList.toArray⟩ = _
  rw [Array.toArray_toList]
theorem RangeIn.grown {w w' : World} {m r base : Nat} {es vis rem : List Ent} {cnt : Nat} {v : Value} {e : TypeId} {sz n : Nat} {xs : List Value} (h : RangeIn w (some m) r es vis rem cnt) (ho : w.ownsRow base e sz v n xs) (hg : w.grownBy w' v.ownBlock) (h1 : m < base) (h2 : r < base) : RangeIn w' (some m) r es vis rem cnt := by
  refine h.kept (Chg.of_grown (S := fun k => some k = v.ownBlock) hg (fun k hk _ => hk.symm)) (fun hx => ?_) (fun hx => ?_)
  · have := (ho.lt m hx.symm).1; omega
  · have := (ho.lt r hx.symm).1; omega
set_option maxHeartbeats 600000 in
set_option maxRecDepth 100000 in
theorem list_any (g : Gh) (st : St) (head : ByteArray) (w : World) (h : DiskAt w g st) (hn : st.fs.length ≤ 1099511627776) :
    Calls Try.prog 27 #[.pointer (some ⟨g.d, 0, none⟩), .string head] w (ListTo g head w) := by
  have c6 := h.cells.2.2.2.2.2.2.1
  have HG := Lib.hid h
  have hle : g.es.length ≤ 1099511627776 := by
    have h1 := congrArg List.length h.fs
    rw [List.length_map] at h1
    omega
  have HLE := Lib.hid hle
  obtain ⟨i0, hi, hz0, hz1, hz2⟩ := info_parts info_str
  obtain ⟨R, hR⟩ : ∃ R, R = w.heap.size := ⟨_, rfl⟩
  have HR := Lib.hid hR
  have hmR : ∀ m, g.mb = some m → m < R := fun m hm => by rw [hR]; exact h.lt m (mem_fp_mb g hm)
  have HMR := Lib.hid hmR
  clear h hle hmR
  go_enter Try.func27, Try.ntmps27
  go_wp2_with (at_range; refine wpList_range_ents rfl _ rfl g.mb g.es rfl HG.out.map ?_; intro w0 cnt0 hrg0 hg0 hs0)
  rw [← hR] at hrg0 hs0 ⊢
  go_frame
  have HRG := Lib.hid hrg0
  have HG0 := Lib.hid hg0
  have HS0 := Lib.hid hs0
  clear hrg0 hg0 hs0 hR
  go_loopw [5, 6] (fun u _ wr => ∃ v vis rem cnt, v = u ∧ RangeIn wr g.mb R g.es vis rem cnt ∧ Below w.heap.size w wr ∧ R + 1 ≤ wr.heap.size ∧ wr.ownsRow (R + 1) 9 1 v (begins head vis).length ((begins head vis).map encStr)) (fun _ _ wr => toCome g.mb wr R)
  case atStart => exact ⟨_, [], _, _, rfl, HRG.out, below_grown (Below.refl _ _) HG0.out (Nat.le_refl _), by rw [HS0.out]; exact Nat.le_refl _, World.ownsRow_nil _ _ _ _⟩
  case round =>
    obtain ⟨v, vis, rem, cnt, rfl, hrg, hbl, hsz, hown⟩ := hrel
    have HRG1 := Lib.hid hrg
    have HBL := Lib.hid hbl
    have HOWN := Lib.hid hown
    clear hrg hbl HRG hown
    go_wp2_with (at_next; refine wpList_next_ents rfl _ rfl g.mb R g.es vis rem cnt rfl HRG1.out ?cd ?cm)
    case cd =>
      intro hrem
      have hp : vis.Perm g.es := by
        have := HRG1.out
        rw [hrem] at this
        exact this.done
      have HP := Lib.hid hp
      clear hrem hp
      have hsrt : Calls Try.prog 50 #[v] wr fun e w' => e = .returned (.tuple #[]) ∧ w'.ownsRow w.heap.size 9 1 v (begins head vis).length (((begins head vis).mergeSort fun x y => decide (x ≤ y)).map encStr) ∧ Below w.heap.size w w' := by
        have hpl : (begins head vis).length ≤ 1099511627776 := by
          unfold begins
          rw [List.length_map]
          exact Nat.le_trans (List.length_filter_le _ _) (by rw [HP.out.length_eq]; exact HLE.out)
        rcases HOWN.out.2 with ⟨rfl, h0⟩ | ⟨g1, cap, cur, rfl, hbase, hb, h1, h2, h3, h4⟩
        · have hnil : begins head vis = [] := List.length_eq_zero_iff.1 h0
          refine (Try.slices_Sort_string_none none 0 wr).mono ?_
          rintro e w' ⟨rfl, rfl⟩
          rw [hnil]
          refine ⟨rfl, ?_, HBL.out⟩
          rw [List.mergeSort_nil]
          exact World.ownsRow_nil _ _ _ _
        · refine (Try.slices_Sort_string g1 0 cap (begins head vis) wr (holds_of_block hb (by simpa using h4)) (Array.getElem?_eq_some_iff.1 hb).1 (by omega)).mono ?_
          rintro e w' ⟨rfl, nn, os, rfl⟩
          refine ⟨rfl, ownsRow_sorted (by simp) (by have := HR.out; omega) hb h1 h2 h3, ?_⟩
          exact below_grown' HBL.out (grownBy_sorted _) (Nat.le_refl _) (by have := HR.out; omega)
      have HSRT := Lib.hid hsrt
      clear hsrt
      go_wp2_with (go_at_call 50; refine HSRT.out.mono ?_; rintro e w2 ⟨rfl, ho2, hb2⟩)
      go_ret
      exact ⟨v, vis, rfl, HP.out, ho2, hb2⟩
    case cm =>
      intro e r1 r2 w2 cnt2 hrem hmb hrg2 hlt hg2 hs2 hen
      obtain ⟨m, hm⟩ : ∃ m, g.mb = some m := by
        cases hq : g.mb with
        | none => exact absurd hq hmb
        | some m => exact ⟨m, rfl⟩
      have hp := HRG1.out.perm
      rw [hrem] at hp
      have hbl2 : Below w.heap.size w w2 := below_grown' HBL.out hg2 (Nat.le_refl _) (by rw [HR.out]; exact Nat.le_refl _)
      have hme : toCome g.mb w2 R < toCome g.mb wr R := by
        rw [hm] at hrg2 ⊢
        have h1 := hrg2.toCome
        have h2 := HRG1.out
        rw [hm] at h2
        rw [h1, h2.toCome]
        exact hlt
      have hown2 : w2.ownsRow (R + 1) 9 1 v (begins head vis).length ((begins head vis).map encStr) := HOWN.out.kept hg2 (by
        by_cases h0 : v.ownBlock = none
        · exact .inl h0
        · right
          intro hx
          have := (HOWN.out.lt R hx).1
          omega)
      have hlen : (begins head vis).length + 1 ≤ 1099511627776 + 1 := by
        have h1 : (begins head vis).length ≤ vis.length := by unfold begins; rw [List.length_map]; exact List.length_filter_le _ _
        have h2 := hp.length_eq
        simp only [List.length_append, List.length_cons] at h2
        have := HLE.out
        omega
      have HRG2 := Lib.hid hrg2
      have HBL2 := Lib.hid hbl2
      have HME := Lib.hid hme
      have HM := Lib.hid hm
      have HOWN2 := Lib.hid hown2
      have HSN := Lib.hid (begins_snoc head vis e)
      have hsz2 : R + 1 ≤ w2.heap.size := by rw [hs2]; exact hsz
      clear hp hrem hmb hrg2 hlt hg2 hs2 hbl2 hme hm hown2 HRG1 HBL HOWN
      obtain ⟨b, hb⟩ : ∃ b, b = Lib.hasPrefix e.name.data.toList head.data.toList := ⟨_, rfl⟩
      have hpre : ∀ w', Calls Try.prog 49 #[.string e.name, .string head] w' fun x w'' => x = .returned (.bool b) ∧ w'' = w' := fun w' => hb ▸ Try.strings_HasPrefix e.name head w'
      have HPRE := Lib.hid hpre
      have HB := Lib.hid hb
      clear hpre hb
      cases b with
      | false =>
        go_wp2_with (go_at_call 49; refine (HPRE.out _).mono ?_; rintro x w3 ⟨rfl, rfl⟩)
        refine ⟨⟨v, vis ++ [e], r1 ++ r2, cnt2, rfl, HRG2.out, HBL2.out, hsz2, ?_⟩, HME.out⟩
        rw [HSN.out, ← HB.out]
        simpa using HOWN2.out
      | true =>
        go_wp2_with (first
          | (go_at_call 49; refine (HPRE.out _).mono ?_; rintro x w3 ⟨rfl, rfl⟩)
          | (at_builtin; refine wpList_append_own _ rfl (.tmp 21) (.tmp 23) 73 rfl (R + 1) 9 i0 (.string ⟨#[]⟩) 1 16 Try.underlying73 hi hz0 hz1 hz2 rfl (by decide) v (begins head vis).length ((begins head vis).map encStr) rfl (HOWN2.out.alloc _) ⟨w3.heap.size, 0, none⟩ 1 1 [.string e.name] rfl rfl ?c1 ?c2 ?c3 ?c4 ?c5 ?c6))
        case c1 => exact cell_one_new _ _ _
        case c2 => intro u hu; simp at hu; rw [hu]; rfl
        case c3 => unfold maxLen; omega
        case c4 => omega
        case c5 => simp; omega
        case c6 =>
          intro v' w4 hown4 hgrow4 _
          have hm := HM.out
          have hr4 : RangeIn w4 g.mb R g.es (vis ++ [e]) (r1 ++ r2) cnt2 := by
            have h1 := HRG2.out
            rw [hm] at h1 ⊢
            have h2 := h1.kept (Chg.alloc (fun _ => False) (Chg.refl _ _) (.cells #[.string e.name] 9)) (fun x => x) (fun x => x)
            exact h2.grown (HOWN2.out.alloc _) hgrow4 (by have := HMR.out m hm; omega) (by omega)
          have hb4 : Below w.heap.size w w4 := by
            have h1 := (HBL2.out).alloc HBL2.out.size (.cells #[.string e.name] 9)
            refine h1.grown hgrow4 h1.size (fun k hk => ?_)
            have := (HOWN2.out.lt k hk).1
            have := HR.out
            omega
          have hs4 : R + 1 ≤ w4.heap.size := by have := hgrow4.size; simp at this; omega
          have hme4 : toCome g.mb w4 R < toCome g.mb wr R := by
            have h1 := HME.out
            have h2 := HRG2.out
            rw [hm] at h1 h2 hr4 ⊢
            rw [hr4.toCome]
            rw [h2.toCome] at h1
            exact h1
          have HR4 := Lib.hid hr4
          have HB4 := Lib.hid hb4
          have HME4 := Lib.hid hme4
          have HO4 := Lib.hid hown4
          clear hr4 hb4 hme4 hown4 hgrow4 hm
          go_wp2_with fail
          refine ⟨⟨v', vis ++ [e], r1 ++ r2, cnt2, rfl, HR4.out, HB4.out, hs4, ?_⟩, HME4.out⟩
          rw [HSN.out, ← HB.out]
          simp only [if_true, List.length_append, List.map_append, List.map_cons, List.map_nil, List.length_cons, List.length_nil, encStr_name]
          exact HO4.out
end Go.Proofs.Ytkmmbpdiljgkgaa
