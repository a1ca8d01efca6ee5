/-
  Part 32: what the statement needs of these texts: UApW.
-/
import Derived.BigQuiet
import Derived.ChangeSame
import Derived.Deep.AppendLies
import Derived.Deep.AppendSrc
import Derived.Deep.DeepCutAuto
import Derived.Deep.DeepMust
import Derived.Deep.Grids
import Derived.Deep.OwnRows
import Derived.Deep.QuietTactic
import Derived.Deep.RegionHeld3
import Derived.Deep.RegionLaw
import Derived.IntWalk
import Derived.Laws.BitsAllLaws
import Derived.Laws.CopyOwn
import Derived.Laws.OwnMore
import Derived.Laws.PanicsMore
import Derived.Laws.Rows
import Derived.Laws.StructEq
import Derived.Lib.AppendStr
import Derived.Lib.AppendZerosOnto
import Derived.Lib.BufferRead
import Derived.Lib.BufferWrite
import Derived.Lib.Hide
import Derived.Lib.OthersKept
import Derived.Lib.SmallJoins
import Derived.Maps.AppendAt
import Derived.Maps.OwnSet
import Derived.Maps.RangeWalk
import Derived.OpenShut
import Derived.Orders
import Derived.ProofKit
import Derived.RowKit
import Derived.Shelf.Slices.In.SortNone
import Derived.Shelf.Sort.Plain
import Derived.Shelf.Strings.Prefix
import Derived.SliceStrings
import Derived.Sort.OwnSorted
import Derived.StillTailTactics
import Derived.StringKeys
import Derived.Test.YtcdoicndpecfiaaProg
import Derived.Test.YtcdoicndpecfiaaRows
import Derived.WalkKit
import Derived.WalkLawsBesides
import Derived.WalkSmall
import Derived.WalkSpells
import Derived.Test.YtcdoicndpecfiaaUa1
import Derived.Test.YtcdoicndpecfiaaUa2
import Derived.Test.YtcdoicndpecfiaaUa3
import Derived.Test.YtcdoicndpecfiaaUa4
import Derived.Test.YtcdoicndpecfiaaUa5
import Derived.Test.YtcdoicndpecfiaaUa6
import Derived.Test.YtcdoicndpecfiaaUa7
import Derived.Test.YtcdoicndpecfiaaUa8
import Derived.Test.YtcdoicndpecfiaaUa9
import Derived.Test.YtcdoicndpecfiaaUa10
import Derived.Test.YtcdoicndpecfiaaUa11
import Derived.Test.YtcdoicndpecfiaaUa12
import Derived.Test.YtcdoicndpecfiaaUa13
import Derived.Test.YtcdoicndpecfiaaUa14
import Derived.Test.YtcdoicndpecfiaaUa15
import Derived.Test.YtcdoicndpecfiaaUa16
import Derived.Test.YtcdoicndpecfiaaUa17
import Derived.Test.YtcdoicndpecfiaaUa18
import Derived.Test.YtcdoicndpecfiaaUa19
import Derived.Test.YtcdoicndpecfiaaUa20
import Derived.Test.YtcdoicndpecfiaaUa21
import Derived.Test.YtcdoicndpecfiaaUa22
import Derived.Test.YtcdoicndpecfiaaUa23
import Derived.Test.YtcdoicndpecfiaaUa24
import Derived.Test.YtcdoicndpecfiaaUa25
import Derived.Test.YtcdoicndpecfiaaUa26
import Derived.Test.YtcdoicndpecfiaaUa27
import Derived.Test.YtcdoicndpecfiaaUa28
import Derived.Test.YtcdoicndpecfiaaUa29
import Derived.Test.YtcdoicndpecfiaaUa30
import Derived.Test.YtcdoicndpecfiaaUa31
namespace Go.Proofs.Ytcdoicndpecfiaa
open Go.RowKit Go.Deep Go.ChangeMaps Go.WideShapes
set_option linter.unusedVariables false
set_option linter.unusedSimpArgs false

theorem ubool_at {w : World} {a : Option Addr} {n cap : Nat} {bs : List Bool} (h : BoolsOf w (.slice a n cap) bs) {i : Nat} (hi : i < bs.length) : ∃ b o, a = some ⟨b, o, none⟩ ∧ w.cell? ⟨b, o + i, none⟩ = some (.bool (bs.getD i false)) := by
  obtain ⟨a', c', e, h⟩ := h
  injection e with e1
  subst e1
  rcases h with rfl | ⟨b, o, rfl, h⟩
  · cases hi
  · exact ⟨b, o, rfl, h i hi⟩
theorem ubools_below {w w' : World} {v : Value} {bs : List Bool} (h : BoolsOf w v bs) (hb : Below w.heap.size w w') : BoolsOf w' v bs := by
  obtain ⟨a, cap, e, h⟩ := h
  refine ⟨a, cap, e, h.imp (fun h => h) ?_⟩
  rintro ⟨b, o, e2, h⟩
  exact ⟨b, o, e2, fun i hi => (World.cell?_of_block (hb.block b (World.block_lt_of_cell? _ _ (h i hi)))).trans (h i hi)⟩
theorem ustrs_below {w w' : World} {v : Value} {ts : List ByteArray} (h : Strs w 0 v ts) (hb : Below w.heap.size w w') : Strs w' 0 v ts := h.below hb (Nat.le_refl _)
theorem made_map (w : World) : MapK uK uEl (w.alloc (.map #[] 0)) w.heap.size [] := MapK.made w
set_option maxRecDepth 100000 in
set_option maxHeartbeats 8000000 in
theorem walk_TopicApart (v : Value) (zs : List ByteArray) (vb : Value) (bs : List Bool) (w : World) (hz : Strs w 0 v zs) (hb : BoolsOf w vb bs) (hbl : bs.length ≤ maxLen) (_ht : True) :
    Calls Try.prog 5 #[v, vb] w fun e w' => e = .returned (.bool true) ∧ Below w.heap.size w w' := by
  obtain ⟨a, cap, rfl⟩ := hz.form
  obtain ⟨ab, capb, hbf⟩ : ∃ ab capb, vb = .slice ab bs.length capb := by obtain ⟨a', c', e, _⟩ := hb; exact ⟨a', c', e⟩
  subst hbf
  obtain ⟨n, hn⟩ : ∃ n, n = zs.length := ⟨_, rfl⟩
  obtain ⟨m, hm⟩ : ∃ m, m = bs.length := ⟨_, rfl⟩
  rw [← hn] at hz
  rw [← hm] at hb hbl
  rw [← hn, ← hm]
  have HZ := Lib.hid hz
  have HBS := Lib.hid hb
  have HN := Lib.hid hn
  have HM := Lib.hid hm
  have hml : (m : Int) ≤ 9223372036854775807 := by unfold maxLen at hbl; omega
  clear hz hb hn hm hbl
  by_cases h40 : 40 < n
  · have h40' : (40 : Int) < (n : Int) := by omega
    clear h40
    go_enter Try.func5, Try.ntmps5
    go_wp2_with fail
    refine (awake_u w).mono ?_
    rintro e w1 ⟨rfl, hb1⟩
    have HB1 := Lib.hid hb1
    clear hb1
    go_wp2_with fail
    go_ret
    exact ⟨rfl, HB1.out⟩
  · have h40' : ¬ (40 : Int) < (n : Int) := by omega
    have hn40 : n ≤ 40 := by omega
    clear h40
    go_enter Try.func5, Try.ntmps5
    go_wp2_with fail
    refine (awake_u w).mono ?_
    rintro e w1 ⟨rfl, hb1⟩
    have HB1 := Lib.hid hb1
    clear hb1
    go_wp2_with fail
    refine (new_any 65536 w1).mono ?_
    rintro e w2 ⟨rfl, hd2, hb2⟩
    obtain ⟨d, hd⟩ : ∃ d, d = w1.heap.size := ⟨_, rfl⟩
    obtain ⟨w3, hw3⟩ : ∃ w3, w3 = w2.alloc (.map #[] 0) := ⟨_, rfl⟩
    obtain ⟨mb, hmb⟩ : ∃ mb, mb = w2.heap.size := ⟨_, rfl⟩
    have hAP : ApW w w3 d mb 0 [] [] := by
      have hz1 := HB1.out.size
      have hz2 := hb2.size
      have k3 : Chg (fun _ => False) w2 w3 := Chg.of_below (by rw [hw3]; exact (Below.refl _ _).alloc (Nat.le_refl _) _)
      refine ⟨⟨w1.heap.size, none, []⟩, newSt 65536, hd2.new k3, hd.symm, ApI.new, ?_, fun hx => ?_, by omega, fun k hk => ?_, ((Chg.of_below HB1.out).trans (Chg.of_below hb2) (fun _ _ e => e)).trans k3 (fun _ _ e => e)⟩
      · rw [hw3, hmb]; exact made_map w2
      · have := hd2.lt mb hx
        omega
      · simp [Gh.fp] at hk; omega
    have HAP := Lib.hid hAP
    have HD := Lib.hid hd
    have HW3 := Lib.hid hw3
    have HMB := Lib.hid hmb
    have hmm := @run_makeMap Try.prog
    clear hd2 hb2 hd hw3 hmb hAP
    rw [← HD.out]
    go_upto_region 7 with fail
    rw [← HMB.out, ← HW3.out]
    clear hmm
    go_wp2_with fail
    go_loopw [26] (fun i wr => ∃ k : Nat, k ≤ n ∧ i = .int .i64 (k : Int) ∧ ∃ M, Hid (ApW w wr d mb (2 * k) M M)) (fun i _ => n - (intOf i).toNat)
    case atStart => exact ⟨0, Nat.zero_le _, rfl, [], HAP⟩
    case round =>
      obtain ⟨k, hk, rfl, M, HA⟩ := hrel
      by_cases hlt : k < n
      · have hltz : k < zs.length := by rw [← HN.out]; exact hlt
        obtain ⟨b, o, hbo, hcell⟩ := (ustrs_below HZ.out HA.out.below).cellAt hltz
        obtain ⟨s, hs⟩ : ∃ s, s = zs.getD k ⟨#[]⟩ := ⟨_, rfl⟩
        rw [← hs] at hcell
        subst hbo
        clear hs hltz
        by_cases h100 : 100 < s.size
        · have h100' : (100 : Int) < (s.size : Int) := by omega
          clear h100
          go_wp2_with fail
          go_ret
          exact ⟨rfl, HA.out.below⟩
        · have h100' : ¬ (100 : Int) < (s.size : Int) := by omega
          have hs100 : s.size ≤ 100 := by omega
          clear h100
          have HSV : Hid (∀ nm, IsNm nm → Calls Try.prog 18 #[.pointer (some ⟨d, 0, none⟩), .string nm, .string s] wr fun e w' => e = .returned (.int .i64 0) ∧ ApW w w' d mb (2 * k + 2) (dropK M nm ++ [(nm, s)]) M) := Lib.hid (fun nm hnm => HA.out.save (by omega) hnm hs100)
          have hcase : (¬ k < m) ∨ (k < m ∧ bs.getD k false = false) ∨ (k < m ∧ bs.getD k false = true) := by
            by_cases h : k < m
            · cases hq : bs.getD k false
              · exact .inr (.inl ⟨h, rfl⟩)
              · exact .inr (.inr ⟨h, rfl⟩)
            · exact .inl h
          have hbc : k < m → ∃ b o, ab = some ⟨b, o, none⟩ ∧ wr.cell? ⟨b, o + k, none⟩ = some (.bool (bs.getD k false)) := fun h => ubool_at (ubools_below HBS.out HA.out.below) (by rw [← HM.out]; exact h)
          have HBC := Lib.hid hbc
          clear hbc
          rcases hcase with hc | ⟨hc, hq⟩ | ⟨hc, hq⟩
          · obtain ⟨nm, hnm⟩ : ∃ nm : ByteArray, nm = ⟨#[111, 110, 101]⟩ := ⟨_, rfl⟩
            have HNM : Hid (IsNm nm) := Lib.hid (.inl hnm)
            have HS1 := Lib.hid (HSV.out nm HNM.out)
            rw [hnm] at HS1
            have HNE := Lib.hid hnm
            clear hnm HSV HBC
            go_wp2_with fail
            refine HS1.out.mono ?_
            rintro e w4 ⟨rfl, h4⟩
            rw [← HNE.out] at h4
            obtain ⟨g4, st4, b1, b2x, b3, b4, b5, b6, b7, b8⟩ := id h4
            have H4 := Lib.hid h4
            have HMK := Lib.hid b4
            have hml4 : Hid (M.length < maxLen) := Lib.hid (by
              have e1 := b3.perm.length_eq
              have e2 := b3.ease.good.len
              rw [List.length_map, List.length_map, List.length_append] at e1
              have e3 : M.length ≤ 1000 := by
                obtain ⟨g0, st0, _, _, y3, _⟩ := HA.out
                have q1 := y3.perm.length_eq
                have q2 := y3.ease.good.len
                rw [List.length_map, List.length_map] at q1
                omega
              unfold maxLen
              omega)
            clear h4 b1 b2x b3 b4 b5 b6 b7 b8
            go_upto_region 17 with fail
            go_wp2_with (refine wpList_store_uu rfl (.tmp 49) (.tmp 50) (.tmp 51) rfl mb M nm s rfl (by rw [HNE.out]; rfl) rfl HMK.out (by rw [HNM.out.size]; unfold maxLen; omega) hml4.out ?_)
            intro w5 hm5 hg5 hz5
            obtain ⟨M', hM'⟩ : ∃ M', M' = dropK M nm ++ [(nm, s)] := ⟨_, rfl⟩
            rw [← hM'] at hm5 H4
            have H5 := Lib.hid (H4.out.stored hg5 hm5)
            clear hm5 hg5 hz5 hM' HMK hml4
            obtain ⟨w6, hw6⟩ : ∃ w6, w6 = w5.alloc (.cells #[.string ⟨#[111, 110, 101]⟩, .string ⟨#[116, 119, 111]⟩] 9) := ⟨_, rfl⟩
            obtain ⟨L, hL⟩ : ∃ L, L = w5.heap.size := ⟨_, rfl⟩
            have hk6 : Chg (fun _ => False) w5 w6 := Chg.of_below (by rw [hw6]; exact (Below.refl _ _).alloc (Nat.le_refl _) _)
            have H6 := Lib.hid (H5.out.new hk6)
            have q0 : w6.cell? ⟨L, 0, none⟩ = some (.string ⟨#[111, 110, 101]⟩) := by rw [hw6, hL]; simp [go_sem]
            have q1 : w6.cell? ⟨L, 1, none⟩ = some (.string ⟨#[116, 119, 111]⟩) := by rw [hw6, hL]; simp [go_sem]
            have HQ : Hid (∀ W, Below w6.heap.size w6 W → W.cell? ⟨L, 0, none⟩ = some (.string ⟨#[111, 110, 101]⟩) ∧ W.cell? ⟨L, 1, none⟩ = some (.string ⟨#[116, 119, 111]⟩)) := Lib.hid (fun W hW => ⟨ukeep hW q0, ukeep hW q1⟩)
            have HW6 := Lib.hid hw6
            have HL := Lib.hid hL
            clear hk6 q0 q1 hw6 hL
            go_upto_region 19 with fail
            rw [← HL.out, ← HW6.out]
            go_loopw [54] (fun i wr2 => ∃ j : Nat, j ≤ 2 ∧ i = .int .i64 (j : Int) ∧ Hid (ApW w wr2 d mb (2 * k + 2) M' M') ∧ Hid (Below w6.heap.size w6 wr2)) (fun i _ => 2 - (intOf i).toNat)
            case atStart => exact ⟨0, by decide, rfl, H6, Lib.hid (Below.refl _ _)⟩
            case round =>
              obtain ⟨j, hj, rfl, HI, HBI⟩ := hrel
              rename_i wr2 _
              obtain ⟨r0, r1⟩ := HQ.out _ HBI.out
              have hl1 := HI.out.look (k := ⟨#[111, 110, 101]⟩) (by show 3 ≤ maxLen; unfold maxLen; omega)
              have hl2 := HI.out.look (k := ⟨#[116, 119, 111]⟩) (by show 3 ≤ maxLen; unfold maxLen; omega)
              have HLD1 := Lib.hid (HI.out.load (k := ⟨#[111, 110, 101]⟩) (by show 3 ≤ 1000; decide))
              have HLD2 := Lib.hid (HI.out.load (k := ⟨#[116, 119, 111]⟩) (by show 3 ≤ 1000; decide))
              obtain ⟨t1, ht1⟩ : ∃ t, t = rdA M' ⟨#[111, 110, 101]⟩ := ⟨_, rfl⟩
              obtain ⟨y1, hy1⟩ : ∃ t, t = (getK M' ⟨#[111, 110, 101]⟩).isSome := ⟨_, rfl⟩
              obtain ⟨t2, ht2⟩ : ∃ t, t = rdA M' ⟨#[116, 119, 111]⟩ := ⟨_, rfl⟩
              obtain ⟨y2, hy2⟩ : ∃ t, t = (getK M' ⟨#[116, 119, 111]⟩).isSome := ⟨_, rfl⟩
              rw [← ht1, ← hy1] at hl1 HLD1
              rw [← ht2, ← hy2] at hl2 HLD2
              clear ht1 hy1 ht2 hy2
              rcases (show j = 0 ∨ j = 1 ∨ j = 2 by omega) with rfl | rfl | rfl
              · go_wp2_with fail
                refine HLD1.out.mono ?_
                rintro e w7 ⟨rfl, hb7⟩
                have H7 := Lib.hid (HI.out.new (Chg.of_below hb7))
                have HB7 := Lib.hid (ubelow_on hb7 HBI.out (Nat.le_refl _))
                clear hb7
                go_wp2_with fail
                exact ⟨⟨1, by decide, rfl, H7, HB7⟩, by decide⟩
              · go_wp2_with fail
                refine HLD2.out.mono ?_
                rintro e w7 ⟨rfl, hb7⟩
                have H7 := Lib.hid (HI.out.new (Chg.of_below hb7))
                have HB7 := Lib.hid (ubelow_on hb7 HBI.out (Nat.le_refl _))
                clear hb7
                go_wp2_with fail
                exact ⟨⟨2, by decide, rfl, H7, HB7⟩, by decide⟩
              · go_wp2_with fail
                exact ⟨⟨k + 1, by omega, by go_num, M', HI⟩, by simp [intOf]; omega⟩
          · obtain ⟨b2, o2, rfl, hcb⟩ := HBC.out hc
            rw [hq] at hcb
            obtain ⟨nm, hnm⟩ : ∃ nm : ByteArray, nm = ⟨#[111, 110, 101]⟩ := ⟨_, rfl⟩
            have HNM : Hid (IsNm nm) := Lib.hid (.inl hnm)
            have HS1 := Lib.hid (HSV.out nm HNM.out)
            rw [hnm] at HS1
            have HNE := Lib.hid hnm
            clear hnm HSV HBC hq
            go_wp2_with fail
            refine HS1.out.mono ?_
            rintro e w4 ⟨rfl, h4⟩
            rw [← HNE.out] at h4
            obtain ⟨g4, st4, b1, b2x, b3, b4, b5, b6, b7, b8⟩ := id h4
            have H4 := Lib.hid h4
            have HMK := Lib.hid b4
            have hml4 : Hid (M.length < maxLen) := Lib.hid (by
              have e1 := b3.perm.length_eq
              have e2 := b3.ease.good.len
              rw [List.length_map, List.length_map, List.length_append] at e1
              have e3 : M.length ≤ 1000 := by
                obtain ⟨g0, st0, _, _, y3, _⟩ := HA.out
                have q1 := y3.perm.length_eq
                have q2 := y3.ease.good.len
                rw [List.length_map, List.length_map] at q1
                omega
              unfold maxLen
              omega)
            clear h4 b1 b2x b3 b4 b5 b6 b7 b8
            go_upto_region 17 with fail
            go_wp2_with (refine wpList_store_uu rfl (.tmp 49) (.tmp 50) (.tmp 51) rfl mb M nm s rfl (by rw [HNE.out]; rfl) rfl HMK.out (by rw [HNM.out.size]; unfold maxLen; omega) hml4.out ?_)
            intro w5 hm5 hg5 hz5
            obtain ⟨M', hM'⟩ : ∃ M', M' = dropK M nm ++ [(nm, s)] := ⟨_, rfl⟩
            rw [← hM'] at hm5 H4
            have H5 := Lib.hid (H4.out.stored hg5 hm5)
            clear hm5 hg5 hz5 hM' HMK hml4
            obtain ⟨w6, hw6⟩ : ∃ w6, w6 = w5.alloc (.cells #[.string ⟨#[111, 110, 101]⟩, .string ⟨#[116, 119, 111]⟩] 9) := ⟨_, rfl⟩
            obtain ⟨L, hL⟩ : ∃ L, L = w5.heap.size := ⟨_, rfl⟩
            have hk6 : Chg (fun _ => False) w5 w6 := Chg.of_below (by rw [hw6]; exact (Below.refl _ _).alloc (Nat.le_refl _) _)
            have H6 := Lib.hid (H5.out.new hk6)
            have q0 : w6.cell? ⟨L, 0, none⟩ = some (.string ⟨#[111, 110, 101]⟩) := by rw [hw6, hL]; simp [go_sem]
            have q1 : w6.cell? ⟨L, 1, none⟩ = some (.string ⟨#[116, 119, 111]⟩) := by rw [hw6, hL]; simp [go_sem]
            have HQ : Hid (∀ W, Below w6.heap.size w6 W → W.cell? ⟨L, 0, none⟩ = some (.string ⟨#[111, 110, 101]⟩) ∧ W.cell? ⟨L, 1, none⟩ = some (.string ⟨#[116, 119, 111]⟩)) := Lib.hid (fun W hW => ⟨ukeep hW q0, ukeep hW q1⟩)
            have HW6 := Lib.hid hw6
            have HL := Lib.hid hL
            clear hk6 q0 q1 hw6 hL
            go_upto_region 19 with fail
            rw [← HL.out, ← HW6.out]
            go_loopw [54] (fun i wr2 => ∃ j : Nat, j ≤ 2 ∧ i = .int .i64 (j : Int) ∧ Hid (ApW w wr2 d mb (2 * k + 2) M' M') ∧ Hid (Below w6.heap.size w6 wr2)) (fun i _ => 2 - (intOf i).toNat)
            case atStart => exact ⟨0, by decide, rfl, H6, Lib.hid (Below.refl _ _)⟩
            case round =>
              obtain ⟨j, hj, rfl, HI, HBI⟩ := hrel
              rename_i wr2 _
              obtain ⟨r0, r1⟩ := HQ.out _ HBI.out
              have hl1 := HI.out.look (k := ⟨#[111, 110, 101]⟩) (by show 3 ≤ maxLen; unfold maxLen; omega)
              have hl2 := HI.out.look (k := ⟨#[116, 119, 111]⟩) (by show 3 ≤ maxLen; unfold maxLen; omega)
              have HLD1 := Lib.hid (HI.out.load (k := ⟨#[111, 110, 101]⟩) (by show 3 ≤ 1000; decide))
              have HLD2 := Lib.hid (HI.out.load (k := ⟨#[116, 119, 111]⟩) (by show 3 ≤ 1000; decide))
              obtain ⟨t1, ht1⟩ : ∃ t, t = rdA M' ⟨#[111, 110, 101]⟩ := ⟨_, rfl⟩
              obtain ⟨y1, hy1⟩ : ∃ t, t = (getK M' ⟨#[111, 110, 101]⟩).isSome := ⟨_, rfl⟩
              obtain ⟨t2, ht2⟩ : ∃ t, t = rdA M' ⟨#[116, 119, 111]⟩ := ⟨_, rfl⟩
              obtain ⟨y2, hy2⟩ : ∃ t, t = (getK M' ⟨#[116, 119, 111]⟩).isSome := ⟨_, rfl⟩
              rw [← ht1, ← hy1] at hl1 HLD1
              rw [← ht2, ← hy2] at hl2 HLD2
              clear ht1 hy1 ht2 hy2
              rcases (show j = 0 ∨ j = 1 ∨ j = 2 by omega) with rfl | rfl | rfl
              · go_wp2_with fail
                refine HLD1.out.mono ?_
                rintro e w7 ⟨rfl, hb7⟩
                have H7 := Lib.hid (HI.out.new (Chg.of_below hb7))
                have HB7 := Lib.hid (ubelow_on hb7 HBI.out (Nat.le_refl _))
                clear hb7
                go_wp2_with fail
                exact ⟨⟨1, by decide, rfl, H7, HB7⟩, by decide⟩
              · go_wp2_with fail
                refine HLD2.out.mono ?_
                rintro e w7 ⟨rfl, hb7⟩
                have H7 := Lib.hid (HI.out.new (Chg.of_below hb7))
                have HB7 := Lib.hid (ubelow_on hb7 HBI.out (Nat.le_refl _))
                clear hb7
                go_wp2_with fail
                exact ⟨⟨2, by decide, rfl, H7, HB7⟩, by decide⟩
              · go_wp2_with fail
                exact ⟨⟨k + 1, by omega, by go_num, M', HI⟩, by simp [intOf]; omega⟩
          · obtain ⟨b2, o2, rfl, hcb⟩ := HBC.out hc
            rw [hq] at hcb
            obtain ⟨nm, hnm⟩ : ∃ nm : ByteArray, nm = ⟨#[116, 119, 111]⟩ := ⟨_, rfl⟩
            have HNM : Hid (IsNm nm) := Lib.hid (.inr hnm)
            have HS1 := Lib.hid (HSV.out nm HNM.out)
            rw [hnm] at HS1
            have HNE := Lib.hid hnm
            clear hnm HSV HBC hq
            go_wp2_with fail
            refine HS1.out.mono ?_
            rintro e w4 ⟨rfl, h4⟩
            rw [← HNE.out] at h4
            obtain ⟨g4, st4, b1, b2x, b3, b4, b5, b6, b7, b8⟩ := id h4
            have H4 := Lib.hid h4
            have HMK := Lib.hid b4
            have hml4 : Hid (M.length < maxLen) := Lib.hid (by
              have e1 := b3.perm.length_eq
              have e2 := b3.ease.good.len
              rw [List.length_map, List.length_map, List.length_append] at e1
              have e3 : M.length ≤ 1000 := by
                obtain ⟨g0, st0, _, _, y3, _⟩ := HA.out
                have q1 := y3.perm.length_eq
                have q2 := y3.ease.good.len
                rw [List.length_map, List.length_map] at q1
                omega
              unfold maxLen
              omega)
            clear h4 b1 b2x b3 b4 b5 b6 b7 b8
            go_upto_region 17 with fail
            go_wp2_with (refine wpList_store_uu rfl (.tmp 49) (.tmp 50) (.tmp 51) rfl mb M nm s rfl (by rw [HNE.out]; rfl) rfl HMK.out (by rw [HNM.out.size]; unfold maxLen; omega) hml4.out ?_)
            intro w5 hm5 hg5 hz5
            obtain ⟨M', hM'⟩ : ∃ M', M' = dropK M nm ++ [(nm, s)] := ⟨_, rfl⟩
            rw [← hM'] at hm5 H4
            have H5 := Lib.hid (H4.out.stored hg5 hm5)
            clear hm5 hg5 hz5 hM' HMK hml4
            obtain ⟨w6, hw6⟩ : ∃ w6, w6 = w5.alloc (.cells #[.string ⟨#[111, 110, 101]⟩, .string ⟨#[116, 119, 111]⟩] 9) := ⟨_, rfl⟩
            obtain ⟨L, hL⟩ : ∃ L, L = w5.heap.size := ⟨_, rfl⟩
            have hk6 : Chg (fun _ => False) w5 w6 := Chg.of_below (by rw [hw6]; exact (Below.refl _ _).alloc (Nat.le_refl _) _)
            have H6 := Lib.hid (H5.out.new hk6)
            have q0 : w6.cell? ⟨L, 0, none⟩ = some (.string ⟨#[111, 110, 101]⟩) := by rw [hw6, hL]; simp [go_sem]
            have q1 : w6.cell? ⟨L, 1, none⟩ = some (.string ⟨#[116, 119, 111]⟩) := by rw [hw6, hL]; simp [go_sem]
            have HQ : Hid (∀ W, Below w6.heap.size w6 W → W.cell? ⟨L, 0, none⟩ = some (.string ⟨#[111, 110, 101]⟩) ∧ W.cell? ⟨L, 1, none⟩ = some (.string ⟨#[116, 119, 111]⟩)) := Lib.hid (fun W hW => ⟨ukeep hW q0, ukeep hW q1⟩)
            have HW6 := Lib.hid hw6
            have HL := Lib.hid hL
            clear hk6 q0 q1 hw6 hL
            go_upto_region 19 with fail
            rw [← HL.out, ← HW6.out]
            go_loopw [54] (fun i wr2 => ∃ j : Nat, j ≤ 2 ∧ i = .int .i64 (j : Int) ∧ Hid (ApW w wr2 d mb (2 * k + 2) M' M') ∧ Hid (Below w6.heap.size w6 wr2)) (fun i _ => 2 - (intOf i).toNat)
            case atStart => exact ⟨0, by decide, rfl, H6, Lib.hid (Below.refl _ _)⟩
            case round =>
              obtain ⟨j, hj, rfl, HI, HBI⟩ := hrel
              rename_i wr2 _
              obtain ⟨r0, r1⟩ := HQ.out _ HBI.out
              have hl1 := HI.out.look (k := ⟨#[111, 110, 101]⟩) (by show 3 ≤ maxLen; unfold maxLen; omega)
              have hl2 := HI.out.look (k := ⟨#[116, 119, 111]⟩) (by show 3 ≤ maxLen; unfold maxLen; omega)
              have HLD1 := Lib.hid (HI.out.load (k := ⟨#[111, 110, 101]⟩) (by show 3 ≤ 1000; decide))
              have HLD2 := Lib.hid (HI.out.load (k := ⟨#[116, 119, 111]⟩) (by show 3 ≤ 1000; decide))
              obtain ⟨t1, ht1⟩ : ∃ t, t = rdA M' ⟨#[111, 110, 101]⟩ := ⟨_, rfl⟩
              obtain ⟨y1, hy1⟩ : ∃ t, t = (getK M' ⟨#[111, 110, 101]⟩).isSome := ⟨_, rfl⟩
              obtain ⟨t2, ht2⟩ : ∃ t, t = rdA M' ⟨#[116, 119, 111]⟩ := ⟨_, rfl⟩
              obtain ⟨y2, hy2⟩ : ∃ t, t = (getK M' ⟨#[116, 119, 111]⟩).isSome := ⟨_, rfl⟩
              rw [← ht1, ← hy1] at hl1 HLD1
              rw [← ht2, ← hy2] at hl2 HLD2
              clear ht1 hy1 ht2 hy2
              rcases (show j = 0 ∨ j = 1 ∨ j = 2 by omega) with rfl | rfl | rfl
              · go_wp2_with fail
                refine HLD1.out.mono ?_
                rintro e w7 ⟨rfl, hb7⟩
                have H7 := Lib.hid (HI.out.new (Chg.of_below hb7))
                have HB7 := Lib.hid (ubelow_on hb7 HBI.out (Nat.le_refl _))
                clear hb7
                go_wp2_with fail
                exact ⟨⟨1, by decide, rfl, H7, HB7⟩, by decide⟩
              · go_wp2_with fail
                refine HLD2.out.mono ?_
                rintro e w7 ⟨rfl, hb7⟩
                have H7 := Lib.hid (HI.out.new (Chg.of_below hb7))
                have HB7 := Lib.hid (ubelow_on hb7 HBI.out (Nat.le_refl _))
                clear hb7
                go_wp2_with fail
                exact ⟨⟨2, by decide, rfl, H7, HB7⟩, by decide⟩
              · go_wp2_with fail
                exact ⟨⟨k + 1, by omega, by go_num, M', HI⟩, by simp [intOf]; omega⟩
      · have hkn : k = n := by omega
        have HLI := Lib.hid (HA.out.list (by omega))
        obtain ⟨ml, hml2⟩ : ∃ ml, ml = M.length := ⟨_, rfl⟩
        rw [← hml2] at HLI
        have hlen : ∀ W, ApW w W d mb (2 * k) M M → ∀ ty, (Builtin.len_ #[44] ty #[.map (some mb)]).run Try.prog W = .ok (.int .i64 (ml : Int)) W := fun W hW ty => by rw [hml2]; exact hW.len ty
        have HLEN := Lib.hid hlen
        clear hkn hml2 hlen
        go_wp2_with fail
        refine HLI.out.mono ?_
        rintro e w4 ⟨p4, c4, rfl, hb4⟩
        have HA4 := Lib.hid (HA.out.new (Chg.of_below hb4))
        have hrl := HLEN.out w4 HA4.out
        clear hb4
        go_wp2_with fail
        go_ret
        exact ⟨rfl, HA4.out.below⟩
end Go.Proofs.Ytcdoicndpecfiaa

