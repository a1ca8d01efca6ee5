/-
  OctetCuts, walked: true for every input; only new memory is written.
-/
import Derived.Test.YtjkcahandfacoaaWTexts
import Derived.OpenShut
namespace Go.Proofs.Ytjkcahandfacoaa
open Go.RowKit Go.Deep

theorem textS_cut (t : ByteArray) (m : Nat) (most : Int) (hm : m < (txtB t).length) (h : (t.size : Int) ≤ most) (h2 : t.size ≤ 65535) : textS ⟨((txtB t).take m).toArray⟩ most = (⟨#[]⟩, ⟨#[]⟩, 3) := by
  rw [txtB_length] at hm
  by_cases h1 : m < 2
  · have hn : numS ⟨((txtB t).take m).toArray⟩ 2 = _ := numS_eq _ 2 (by omega) (by omega)
    rw [if_pos (by rw [size_of, List.length_take]; omega)] at hn
    rw [textS, hn]
    simp
  · have e : (txtB t).take m = numB 2 t.size ++ t.data.toList.take (m - 2) := by
      rw [txtB, List.take_append, numB_length, List.take_of_length_le (by rw [numB_length]; omega)]
    have hn := numS_read 2 t.size (by omega) (by omega) (by omega) (t.data.toList.take (m - 2))
    rw [show ((2 : Nat) : Int) = 2 from rfl] at hn
    rw [e, textS, hn]
    simp only [if_true]
    rw [if_neg (by omega), cutS_eq, if_pos (by rw [size_of, List.length_take]; omega)]

theorem textsS_cut (most : Int) : ∀ (ts : List ByteArray) (acc : List ByteArray) (m : Nat), m < (ts.flatMap txtB).length → (∀ t ∈ ts, (t.size : Int) ≤ most ∧ t.size ≤ 65535) → textsS most ts.length ⟨((ts.flatMap txtB).take m).toArray⟩ acc = ([], ⟨#[]⟩, 3) := by
  intro ts
  induction ts with
  | nil => intro acc m hm; simp at hm
  | cons t ts ih =>
    intro acc m hm h
    rw [List.flatMap_cons, List.length_append] at hm
    rw [List.flatMap_cons, List.length_cons, textsS]
    have ht := h t List.mem_cons_self
    by_cases h1 : m < (txtB t).length
    · rw [List.take_append_of_le_length (by omega), textS_cut t m most h1 ht.1 ht.2]
      simp
    · rw [List.take_append, List.take_of_length_le (by omega), textS_read t _ most ht.1 ht.2]
      simp only [if_true]
      exact ih _ _ (by omega) fun x hx => h x (List.mem_cons_of_mem _ hx)

theorem listS_cut (ts : List ByteArray) (m : Nat) (many most : Int) (hm : m < (listB ts).length) (hl : ts.length ≤ 255) (hn : (ts.length : Int) ≤ many) (h : ∀ t ∈ ts, (t.size : Int) ≤ most ∧ t.size ≤ 65535) : listS ⟨((listB ts).take m).toArray⟩ many most = ([], ⟨#[]⟩, 3) := by
  rcases Nat.eq_zero_or_pos m with h0 | h0
  · subst h0
    have hn : numS ⟨((listB ts).take 0).toArray⟩ 1 = _ := numS_eq _ 1 (by omega) (by omega)
    rw [if_pos (by rw [size_of]; simp)] at hn
    rw [listS, hn]
    simp
  · rw [listB, List.length_append, numB_length] at hm
    have e : (listB ts).take m = numB 1 ts.length ++ (ts.flatMap txtB).take (m - 1) := by
      rw [listB, List.take_append, numB_length, List.take_of_length_le (by rw [numB_length]; omega)]
    have hr := numS_read 1 ts.length (by omega) (by omega) (by omega) ((ts.flatMap txtB).take (m - 1))
    rw [show ((1 : Nat) : Int) = 1 from rfl] at hr
    rw [e, listS, hr]
    simp only [if_true]
    rw [if_neg (by omega), textsS_cut most ts [] (m - 1) (by omega) h]

theorem cuts_many (u : Value) (ts : List ByteArray) (c : Int) (w : World) (hu : Strs w 0 u ts) (h : 20 < ts.length) :
    Calls Try.prog 8 #[u, .int .u16 c] w fun e w' => e = .returned (.bool true) ∧ Below w.heap.size w w' := by
  obtain ⟨a, cap, rfl⟩ := hu.form
  clear hu
  go_enter Try.func8, Try.ntmps8
  go_wp2_with fail
  refine (awake_any _).mono ?_
  rintro e w1 ⟨rfl, hb⟩
  have HB := Lib.hid hb
  clear hb
  go_wp2_with fail
  go_ret
  exact ⟨rfl, HB.out⟩

set_option maxRecDepth 100000 in
set_option maxHeartbeats 1000000 in
theorem cuts_few (u : Value) (ts : List ByteArray) (c : Nat) (w : World) (hu : Strs w 0 u ts) (hn : ts.length ≤ 20) (hc : c < 65536) :
    Calls Try.prog 8 #[u, .int .u16 c] w fun e w' => e = .returned (.bool true) ∧ Below w.heap.size w w' := by
  have HU := Lib.hid hu
  obtain ⟨a, cap, rfl⟩ := hu.form
  clear hu
  go_enter Try.func8, Try.ntmps8
  go_wp2_with fail
  refine (awake_any _).mono ?_
  rintro e w1 ⟨rfl, hb⟩
  have HB := Lib.hid hb
  have HU1 := Lib.hid (HU.out.below hb (Nat.le_refl _))
  clear hb
  go_wp2_with fail
  go_loop [18] (fun i => ∃ k : Nat, k ≤ ts.length ∧ i = .int .i64 k ∧ (∀ t ∈ ts.take k, t.size ≤ 50)) (fun i => ts.length - (intOf i).toNat)
  case atStart => exact ⟨0, Nat.zero_le _, rfl, by simp⟩
  case round =>
    obtain ⟨k, hk, rfl, hall⟩ := hrel
    have HALL := Lib.hid hall
    clear hall
    by_cases hlt : k < ts.length
    · obtain ⟨b, o, rfl, hck⟩ := HU1.out.cellAt hlt
      obtain ⟨t, ht⟩ : ∃ t, t = ts.getD k ⟨#[]⟩ := ⟨_, rfl⟩
      rw [← ht] at hck
      have HT := Lib.hid ht
      clear ht
      by_cases hsz : t.size ≤ 50
      · have HALL2 := Lib.hid (all_snoc hlt HALL.out (by rw [← HT.out]; exact hsz))
        go_wp2_with fail
        exact ⟨⟨k + 1, by omega, by go_num, HALL2.out⟩, by simp [intOf]; omega⟩
      · go_wp2_with fail
        go_ret
        exact ⟨rfl, HB.out⟩
    · obtain rfl : k = ts.length := by omega
      have hall := HALL.out
      rw [List.take_of_length_le (Nat.le_refl _)] at hall
      have HS2 : Hid (∀ t ∈ ts, t.size ≤ 65535) := Lib.hid fun t ht => Nat.le_trans (hall t ht) (by decide)
      have HS4 : Hid (∀ t ∈ ts, (t.size : Int) ≤ 50 ∧ t.size ≤ 65535) := Lib.hid fun t ht => ⟨by have := hall t ht; omega, HS2.out t ht⟩
      obtain ⟨L, hL⟩ : ∃ L, L = listB ts := ⟨_, rfl⟩
      have hLl : L.length ≤ 100000 ∧ 1 ≤ L.length := by
        rw [hL, listB, List.length_append, numB_length]
        have := flat_small ts fun t ht => Nat.le_trans (hall t ht) (by decide)
        omega
      obtain ⟨hL1, hL2⟩ := hLl
      have HL := Lib.hid hL
      have hp0 : 0 ≤ (c : Int) % (L.length : Int) := Int.emod_nonneg _ (by omega)
      have hp1 : (c : Int) % (L.length : Int) ≤ (L.length : Int) := Int.le_of_lt (Int.emod_lt_of_pos _ (by omega))
      clear hL hall HALL
      go_wp2_with fail
      refine (listW_ok _ ts _ (by omega) HS2.out HU1.out).mono ?_
      rintro e w2 ⟨rfl, hb⟩
      rw [← HL.out]
      have HB2 := Lib.hid (HB.out.trans (hb.mono HB.out.size))
      clear hb
      go_wp2_with fail
      refine (new_post _ _).mono ?_
      rintro e w3 ⟨b, rfl, hb0, hr, hg⟩
      rw [extract_of, List.drop_zero] at hr
      have HB3 := Lib.hid (below_grown HB2.out hg (Nat.le_refl _))
      have HBB := Lib.hid (Nat.le_trans HB2.out.size hb0)
      have HR := Lib.hid hr
      clear hb0 hr hg
      have hq : c % L.length < L.length := Nat.mod_lt _ (by omega)
      obtain ⟨q, hqq⟩ : ∃ q, q = c % L.length := ⟨_, rfl⟩
      rw [← hqq] at hq HR
      have hcut := listS_cut ts q 20 50 (by rw [← HL.out]; exact hq) (by omega) (by omega) HS4.out
      rw [← HL.out] at hcut
      have HCUT := Lib.hid hcut
      have HQ : Hid (((goS ⟨(L.take q).toArray⟩ ⟨#[]⟩ 3).size : Int) = (c : Int) % (L.length : Int)) := Lib.hid (by
        rw [goS_err _ _ (by decide), size_of, List.length_take, hqq, ← Int.natCast_emod]
        congr 1
        omega)
      clear hcut hqq
      go_wp2_with fail
      refine (list_any _ _ _ _ _ HR.out HCUT.out).mono ?_
      rintro e w4 ⟨v, rfl, hv, hr, hg⟩
      obtain ⟨av, cv, rfl⟩ := hv.form
      have HR4 := Lib.hid hr
      have HB4 := Lib.hid (below_grown' HB3.out hg (Nat.le_refl _) HBB.out)
      clear hv hr hg
      go_wp2_with fail
      refine (err_any _ _ _ _ HR4.out).mono ?_
      rintro e w5 ⟨rfl, rfl⟩
      go_wp2_with fail
      refine (left_any _ _ _ _ HR4.out).mono ?_
      rintro e w5 ⟨rfl, rfl⟩
      rw [HQ.out]
      go_wp2_with fail
      refine (end_any _ _ _ _ HR4.out).mono ?_
      rintro e w5 ⟨rfl, rfl⟩
      rw [show ∀ s, endE s 3 = 3 from fun s => rfl]
      go_wp2_with fail
      go_ret
      exact ⟨rfl, HB4.out⟩

theorem walk_OctetCuts (u : Value) (ts : List ByteArray) (c : Int) (w : World) (hu : Strs w 0 u ts) (w1 : (Lit.int .u16 c).wf = true) :
    Calls Try.prog 8 #[u, .int .u16 c] w fun e w' => e = .returned (.bool true) ∧ Below w.heap.size w w' := by
  rcases Nat.lt_or_ge 20 ts.length with h | h
  · exact cuts_many u ts c w hu h
  · have hb := bounds_u16 w1
    obtain ⟨m, rfl⟩ := Int.eq_ofNat_of_zero_le hb.1
    exact cuts_few u ts m w hu h (by omega)
end Go.Proofs.Ytjkcahandfacoaa
