/-
  CrcApart, walked: true for every input; only new memory is written.
-/
import Derived.Test.YtnghbgedbheodaaSealN
import Derived.Test.YtnghbgedbheodaaCrcW
import Derived.OpenShut
import Derived.Deep.RegionHeld3
import Derived.Deep.DeepCutAuto
namespace Go.Proofs.Ytnghbgedbheodaa
open Go.RowKit Go.Deep

theorem info_int : (Try.prog.info? 3).map (fun i => (i.zero, i.size, i.bytes)) = some (some (.int .i64 0), 1, 8) := by kernel_rfl
theorem ints_own {w : World} {B : Nat} {v : Value} {zs : List Int} (h : w.ownsRow B 3 1 v zs.length (zs.map (Value.int .i64))) : IntsOf .i64 w v zs := by
  rcases h.2 with ⟨rfl, h0⟩ | ⟨g, cap, cur, rfl, _⟩
  · have : zs = [] := List.eq_nil_of_length_eq_zero h0
    subst this
    exact ⟨none, 0, rfl, .inl rfl⟩
  · refine ⟨some ⟨g, 0, none⟩, cap, rfl, .inr ⟨g, 0, rfl, fun i hi => ?_⟩⟩
    have := h.cells rfl i (.int .i64 (zs.getD i 0)) (by simp [List.getElem?_map, List.getElem?_eq_getElem hi, List.getD_eq_getElem?_getD])
    rwa [add_none] at this
theorem IntsOf.form {k : IntKind} {w : World} {v : Value} {zs : List Int} (h : IntsOf k w v zs) : ∃ a cap, v = .slice a zs.length cap := by
  obtain ⟨a, cap, e, _⟩ := h
  exact ⟨a, cap, e⟩
theorem tab_ne_own {w : World} {B b n : Nat} {v : Value} {xs : List Value} (h : w.ownsRow B 3 1 v n xs) (ht : Tab w b) : v.ownBlock ≠ some b := by
  rcases h.2 with ⟨rfl, _⟩ | ⟨g, cap, cur, rfl, _, hh, _⟩
  · simp [Value.ownBlock]
  · intro he
    have hg : g = b := by simpa [Value.ownBlock] using he
    subst hg
    obtain ⟨c, hb, _, _⟩ := ht
    rw [hh] at hb
    injection hb with hb
    injection hb with _ hty
    exact absurd hty (by decide)
theorem Tab.grown {w w' : World} {b : Nat} {r : Option Nat} (h : Tab w b) (hg : w.grownBy w' r) (hne : r ≠ some b) : Tab w' b := World.rowIs.of_block h (hg.block b h.lt (Ne.symm hne))
theorem below_step {a b c : World} (h1 : Below a.heap.size a b) (h2 : Below b.heap.size b c) : Below a.heap.size a c := h1.trans (h2.mono h1.size)
theorem keep_at {a b : World} {p : Addr} {v : Value} (h : Below a.heap.size a b) (hc : a.cell? p = some v) : b.cell? p = some v := (h.cell (World.block_lt_of_cell? _ _ hc)).trans hc
theorem strs_drew {a : World} {b : Nat} {v : Value} {ts : List ByteArray} (h : Strs a b v ts) : Strs a.drew b v ts := h
theorem strs_drewN {a : World} {b : Nat} {v : Value} {ts : List ByteArray} (h : Strs a b v ts) (n : Nat) : Strs (a.drewN n) b v ts := h
theorem tab_drew {a : World} {b : Nat} (h : Tab a b) : Tab a.drew b := h
theorem tab_drewN {a : World} {b : Nat} (h : Tab a b) (n : Nat) : Tab (a.drewN n) b := h
theorem below_then {a b c : World} {G : Prop} (h2 : Below b.heap.size b c) (h1 : Below a.heap.size a b) (k : Below a.heap.size a c → G) : G := k (below_step h1 h2)
theorem new_g (w : World) : Calls Try.prog 10 #[] w fun e w' => ∃ g, e = .returned (.pointer (some ⟨g, 0, none⟩)) ∧ Tab w' g ∧ Below w.heap.size w w' := (new_any w).mono fun _ _ h => ⟨_, h.1, h.2.1, h.2.2⟩
theorem strs_at {a : World} {b : Nat} {s : ByteArray} (h : b = a.heap.size) : Strs (a.alloc (.cells #[.string s] 9)) 0 (.slice (some ⟨b, 0, none⟩) 1 1) [s] := by
  subst h
  exact strs_one a s
theorem below_drew {a b : World} (h : Below a.heap.size a b) : Below a.heap.size a b.drew := h.drew
/-- The sums of texts. -/
def crcsL (ts : List ByteArray) : List Int := ts.map fun t => (crcL t.data.toList : Int)
theorem crcsL_length (ts : List ByteArray) : (crcsL ts).length = ts.length := by simp [crcsL]
theorem crcsL_snoc (ts : List ByteArray) {k : Nat} (h : k < ts.length) : crcsL (ts.take (k + 1)) = crcsL (ts.take k) ++ [(crcL (ts.getD k ⟨#[]⟩).data.toList : Int)] := by
  unfold crcsL
  rw [take_snoc' ts h, List.map_append]
  rfl
theorem crcsL_getD (ts : List ByteArray) {k : Nat} (h : k < ts.length) : (crcsL ts).getD k 0 = (crcL (ts.getD k ⟨#[]⟩).data.toList : Int) := by
  unfold crcsL
  rw [List.getD_eq_getElem?_getD, List.getElem?_map, List.getElem?_eq_getElem h, List.getD_eq_getElem?_getD, List.getElem?_eq_getElem h]
  rfl

set_option maxRecDepth 100000 in
set_option maxHeartbeats 1000000 in
theorem apart_many (v : Value) (ts : List ByteArray) (w : World) (hv : Strs w 0 v ts) (hl : ts.length ≤ maxLen) (h : 40 < ts.length) :
    Calls Try.prog 7 #[v] w fun e w' => e = .returned (.bool true) ∧ Below w.heap.size w w' := by
  unfold maxLen at hl
  obtain ⟨a, cap, rfl⟩ := hv.form
  clear hv
  go_enter Try.func7, Try.ntmps7
  go_wp2_with fail
  refine (awake_any _).mono ?_
  rintro e w1 ⟨rfl, hb⟩
  have HB := Lib.hid hb
  clear hb
  go_wp2_with fail
  go_ret
  exact ⟨rfl, HB.out⟩

set_option maxRecDepth 100000 in
set_option maxHeartbeats 4000000 in
theorem apart_few (v : Value) (ts : List ByteArray) (w : World) (hv : Strs w 0 v ts) (h40 : ts.length ≤ 40) (hm : ∀ t ∈ ts, t.size ≤ maxLen) :
    Calls Try.prog 7 #[v] w fun e w' => e = .returned (.bool true) ∧ Below w.heap.size w w' := by
  obtain ⟨i0, hi0, hz0, hz1, hz2⟩ := info_parts info_int
  have HV := Lib.hid hv
  have HM := Lib.hid hm
  obtain ⟨a, cap, rfl⟩ := hv.form
  clear hv hm
  go_enter Try.func7, Try.ntmps7
  go_wp2_with fail
  refine (awake_any _).mono ?_
  rintro e w1 ⟨rfl, hb⟩
  have HB1 := Lib.hid hb
  clear hb
  go_wp2_with fail
  refine (new_any _).mono ?_
  rintro e w2 ⟨rfl, ht, hb⟩
  have HT2 := Lib.hid ht
  have HB2 := Lib.hid (HB1.out.trans (hb.mono HB1.out.size))
  obtain ⟨g, hg⟩ : ∃ g, g = w1.heap.size := ⟨_, rfl⟩
  rw [← hg] at HT2 ⊢
  have HG := Lib.hid hg
  clear ht hb HB1 hg
  go_wp2_with fail
  go_loopw [4, 17] (fun q i wr => ∃ k : Nat, k ≤ ts.length ∧ i = .int .i64 k ∧ wr.ownsRow w.heap.size 3 1 q k ((crcsL (ts.take k)).map (Value.int .i64)) ∧ Tab wr g ∧ Below w.heap.size w wr ∧ (∀ t ∈ ts.take k, t.size ≤ 300)) (fun _ i _ => ts.length - (intOf i).toNat)
  case atStart => exact ⟨0, Nat.zero_le _, rfl, ⟨by simp [crcsL], .inl ⟨rfl, rfl⟩⟩, HT2.out, HB2.out, by simp⟩
  case round =>
    obtain ⟨k, hk, rfl, hown, htab, hbel, hall⟩ := hrel
    have HOWN := Lib.hid hown
    have HTAB := Lib.hid htab
    have HBEL := Lib.hid hbel
    have HALL := Lib.hid hall
    clear hown htab hbel hall
    by_cases hlt : k < ts.length
    · obtain ⟨b, o, rfl, hck⟩ := (HV.out.below HBEL.out (Nat.le_refl _)).cellAt hlt
      have HSN := Lib.hid (crcsL_snoc ts hlt)
      have hmem : ts.getD k ⟨#[]⟩ ∈ ts := by simp [List.getD_eq_getElem?_getD, List.getElem?_eq_getElem hlt]
      have htm := HM.out _ hmem
      unfold maxLen at htm
      have HTK := Lib.hid (take_snoc' ts hlt)
      obtain ⟨t, ht⟩ : ∃ t, t = ts.getD k ⟨#[]⟩ := ⟨_, rfl⟩
      rw [← ht] at hck HSN htm HTK
      have HT := Lib.hid ht
      clear ht hmem
      by_cases hsz : t.size ≤ 300
      · obtain ⟨n, hn⟩ : ∃ n, n = crcL t.data.toList := ⟨_, rfl⟩
        rw [← hn] at HSN
        have HN := Lib.hid hn
        clear hn
        go_wp2_with fail
        refine (sum_one g t n _ _ HN.out (by omega) (HTAB.out.alloc _) (strs_one wr t)).mono ?_
        rintro e w3 ⟨rfl, d, rfl⟩
        obtain ⟨W3, hW⟩ : ∃ W3, W3 = (wr.alloc (.cells #[.string t] 9)).drewN d := ⟨_, rfl⟩
        rw [← hW]
        have HO3 : Hid (W3.ownsRow w.heap.size 3 1 u4 k ((crcsL (ts.take k)).map (Value.int .i64))) := Lib.hid (by rw [hW]; exact HOWN.out.alloc _)
        have HT3 : Hid (Tab W3 g) := Lib.hid (by rw [hW]; exact (HTAB.out.alloc _).drewN d)
        have HB3 : Hid (Below w.heap.size w W3) := Lib.hid (by rw [hW]; exact below_drewN (HBEL.out.alloc HBEL.out.size _) d)
        clear hW HOWN HTAB HBEL
        go_wp2_with (at_builtin; go_must (refine wpList_append_own _ rfl _ _ 39 rfl w.heap.size 3 i0 (.int .i64 0) 1 8 Try.underlying39 hi0 hz0 hz1 hz2 rfl (by decide) _ _ _ rfl (HO3.out.alloc _) ⟨W3.heap.size, 0, none⟩ 1 1 [.int .i64 n] rfl rfl (cell_one_new _ _ _) ?c2 ?c3 ?c4 ?c5 ?_))
        case c2 => intro u hu; simp at hu; subst hu; rfl
        case c3 => unfold maxLen; omega
        case c4 => omega
        case c5 => have := HB3.out.size; simp; omega
        intro v4 w4 hown hgr _
        have HO4 : Hid (w4.ownsRow w.heap.size 3 1 v4 (k + 1) ((crcsL (ts.take (k + 1))).map (Value.int .i64))) := Lib.hid (by rw [HSN.out, List.map_append]; exact hown)
        have HB4 := Lib.hid ((HB3.out.alloc HB3.out.size (.cells #[.int .i64 n] 3)).grown hgr (by simp; have := HB3.out.size; omega) (fun j hj => (HO3.out.lt j hj).1))
        have HT4 := Lib.hid ((HT3.out.alloc (.cells #[.int .i64 n] 3)).grown hgr (tab_ne_own HO3.out HT3.out))
        have HALL2 : Hid (∀ t ∈ ts.take (k + 1), t.size ≤ 300) := Lib.hid (by
          rw [HTK.out]
          intro x hx
          rcases List.mem_append.1 hx with hx | hx
          · exact HALL.out x hx
          · rw [List.mem_singleton] at hx
            rw [hx]
            exact hsz)
        clear hown hgr HO3 HT3 HB3
        go_wp2_with fail
        exact ⟨⟨k + 1, by omega, by go_num, HO4.out, HT4.out, HB4.out, HALL2.out⟩, by simp [intOf]; omega⟩
      · go_wp2_with fail
        go_ret
        exact ⟨rfl, HBEL.out⟩
    · obtain rfl : k = ts.length := by omega
      have hown := HOWN.out
      have hall := HALL.out
      rw [List.take_of_length_le (Nat.le_refl _)] at hown hall
      rw [← crcsL_length] at hown
      have hiv := ints_own hown
      have HIV := Lib.hid hiv
      have HALL2 := Lib.hid hall
      obtain ⟨a4, cap4, rfl⟩ := hiv.form
      rw [crcsL_length]
      clear hown hiv hall HALL HOWN HB2 HT2
      obtain ⟨wo, hwo⟩ : ∃ wo : World, wo = wr := ⟨_, rfl⟩
      subst hwo
      go_wp2_with fail
      go_loopw [34] (fun i wr => ∃ k : Nat, k ≤ ts.length ∧ i = .int .i64 k ∧ Tab wr g ∧ Below w.heap.size w wr ∧ IntsOf .i64 wr (.slice a4 ts.length cap4) (crcsL ts)) (fun i _ => ts.length - (intOf i).toNat)
      case atStart => exact ⟨0, Nat.zero_le _, rfl, HTAB.out, HBEL.out, by rw [← crcsL_length]; exact HIV.out⟩
      case round =>
        clear HTAB HBEL HIV
        obtain ⟨j, hj, rfl, htab, hbel, hiv⟩ := hrel
        have HTAB := Lib.hid htab
        have HBEL := Lib.hid hbel
        have HIV := Lib.hid hiv
        clear htab hbel hiv
        by_cases hlt : j < ts.length
        · obtain ⟨k, hk⟩ : ∃ k, k = ts.length - 1 - j := ⟨_, rfl⟩
          have hkl : k < ts.length := by omega
          have hsub : (ts.length : Int) - 1 - (j : Int) = (k : Int) := by omega
          obtain ⟨b, o, rfl, hck⟩ := (HV.out.below HBEL.out (Nat.le_refl _)).cellAt hkl
          obtain ⟨b2, o2, rfl, hxx, hck2⟩ := HIV.out.cellAt (i := k) (by rw [crcsL_length]; exact hkl)
          clear hxx
          rw [crcsL_getD ts hkl] at hck2
          have ht3 : (ts.getD k ⟨#[]⟩).size ≤ 300 := HALL2.out _ (by simp [List.getD_eq_getElem?_getD, List.getElem?_eq_getElem hkl])
          obtain ⟨t, ht⟩ : ∃ t, t = ts.getD k ⟨#[]⟩ := ⟨_, rfl⟩
          rw [← ht] at hck hck2 ht3
          obtain ⟨n, hn⟩ : ∃ n, n = crcL t.data.toList := ⟨_, rfl⟩
          rw [← hn] at hck2
          have HN := Lib.hid hn
          have HT := Lib.hid ht
          clear hn ht hk
          have HBL := Lib.hid (Below.refl wr.heap.size wr)
          have htm6 : t.size ≤ 1000000 := by omega
          obtain ⟨X, hX⟩ : ∃ X : ByteArray, X = ⟨(sealB t).toArray⟩ := ⟨_, rfl⟩
          have HX := Lib.hid hX
          clear hX
          go_upto_region 18 with fail
          go_cut [82] from 42 to 81 (fun x wx => x = .bool false ∧ Below wr.heap.size wr wx)
          case first =>
            go_region_held3 (fun w' => w'.cell? ⟨b, o + k, none⟩ = some (.string t) ∧ w'.cell? ⟨b2, o2 + k, none⟩ = some (.int .i64 n))
              (first | exact ⟨k0, k1⟩ | go_keep)
              (first
                | (go_at_call 12
                   ((with_reducible refine (sum_one g t n _ _ HN.out htm6 ?_ ?_).mono ?_))
                   · refine HTAB.out.below (B := wr.heap.size) ?_ HTAB.out.lt
                     repeat (first | exact HBL.out | with_reducible refine below_alloc ?_ _ | with_reducible refine below_drewN ?_ _ | with_reducible refine below_drew ?_)
                   · repeat (first | with_reducible exact strs_one _ t | with_reducible refine strs_drew ?_ | with_reducible refine strs_drewN ?_ _)
                   rintro e w5 ⟨rfl, d, rfl⟩)
                | (go_at_call 12
                   ((with_reducible refine (sum_one g2 t n _ _ HN.out htm6 ?_ ?_).mono ?_))
                   · repeat (first | exact HTN.out | with_reducible refine tab_drew ?_ | with_reducible refine tab_drewN ?_ _ | with_reducible refine Tab.alloc ?_ _)
                   · repeat (first | ((with_reducible refine strs_at ?_); focus (simp; done)) | refine HSX.out _ ?_ | with_reducible refine strs_drew ?_ | with_reducible refine strs_drewN ?_ _)
                   rintro e w6 ⟨rfl, d2, rfl⟩)
                | (go_at_call 15
                   ((with_reducible refine (seal_any g t _ ?_ htm6).mono ?_))
                   · refine HTAB.out.below (B := wr.heap.size) ?_ HTAB.out.lt
                     repeat (first | exact HBL.out | with_reducible refine below_alloc ?_ _ | with_reducible refine below_drewN ?_ _ | with_reducible refine below_drew ?_)
                   rintro e w8 ⟨rfl, hb8⟩
                   rw [← HX.out]
                   refine below_then (a := wr) hb8 ?_ ?_
                   · repeat (first | exact HBL.out | with_reducible refine below_alloc ?_ _ | with_reducible refine below_drewN ?_ _ | with_reducible refine below_drew ?_)
                   intro hbl
                   have k0 := keep_at hbl hck
                   have k1 := keep_at hbl hck2
                   have HBL := Lib.hid hbl
                   clear hb8 hbl)
                | (go_at_call 15
                   ((with_reducible refine (seal_any g2 t _ ?_ htm6).mono ?_))
                   · repeat (first | exact HTN.out | with_reducible refine tab_drew ?_ | with_reducible refine tab_drewN ?_ _ | with_reducible refine Tab.alloc ?_ _)
                   rintro e w9 ⟨rfl, hb9⟩
                   rw [← HX.out]
                   refine below_then (a := wr) hb9 ?_ ?_
                   · repeat (first | exact HBL.out | with_reducible refine below_alloc ?_ _ | with_reducible refine below_drewN ?_ _ | with_reducible refine below_drew ?_)
                   intro hbl
                   have k0 := keep_at hbl hck
                   have k1 := keep_at hbl hck2
                   have HBL := Lib.hid hbl
                   clear hb9 hbl)
                | (go_at_call 10
                   ((with_reducible refine (new_g _).mono ?_))
                   rintro e w7 ⟨g2, rfl, ht7, hb7⟩
                   refine below_then (a := wr) hb7 ?_ ?_
                   · repeat (first | exact HBL.out | with_reducible refine below_alloc ?_ _ | with_reducible refine below_drewN ?_ _ | with_reducible refine below_drew ?_)
                   intro hbl
                   have k0 := keep_at hbl hck
                   have k1 := keep_at hbl hck2
                   have HTN := Lib.hid ht7
                   have HSX := Lib.hid fun v (h : Strs _ 0 v [t]) => h.below hb7 (Nat.le_refl _)
                   have HBL := Lib.hid hbl
                   clear ht7 hb7 hbl))
            all_goals
              go_wp2_with fail
              go_meet
              exact ⟨rfl, HBL.out⟩
          case rest =>
            obtain ⟨rfl, hb⟩ := hcut
            have HT2 := Lib.hid (HTAB.out.below hb HTAB.out.lt)
            have HB2 := Lib.hid (HBEL.out.trans (hb.mono HBEL.out.size))
            have HI2 := Lib.hid (HIV.out.below hb (Nat.le_refl _))
            clear hb HTAB HBEL HIV HBL hck hck2 hsub
            go_wp2_with fail
            exact ⟨⟨j + 1, by omega, by go_num, HT2.out, HB2.out, HI2.out⟩, by simp [intOf]; omega⟩
        · go_wp2_with fail
          go_ret
          exact ⟨rfl, HBEL.out⟩

theorem walk_CrcApart (v : Value) (ts : List ByteArray) (w : World) (hv : Strs w 0 v ts) (hl : ts.length ≤ maxLen) (hr : ∀ t ∈ ts, t.size ≤ 140737488351232) :
    Calls Try.prog 7 #[v] w fun e w' => e = .returned (.bool true) ∧ Below w.heap.size w w' := by
  rcases Nat.lt_or_ge 40 ts.length with h | h
  · exact apart_many v ts w hv hl h
  · exact apart_few v ts w hv h fun t ht => by have := hr t ht; unfold maxLen; omega
end Go.Proofs.Ytnghbgedbheodaa
