/-
  Part 19: what the statement needs of these texts: LvG.
-/
import Derived.BigQuiet
import Derived.Deep.DeepCutAuto
import Derived.Deep.DeepMust
import Derived.Deep.OwnRows
import Derived.Deep.QuietTactic
import Derived.Deep.RegionHeld3
import Derived.Deep.RegionLaw
import Derived.Deep.RegionWith
import Derived.Defers
import Derived.IntWalk
import Derived.Laws.BitsAllLaws
import Derived.Laws.PanicsMore
import Derived.Laws.Rows
import Derived.Laws.StructEq
import Derived.Lib.AppendStr
import Derived.Lib.Hide
import Derived.Lib.MinMax
import Derived.Lib.OthersKept
import Derived.Lib.Repeat
import Derived.Orders
import Derived.ProofKit
import Derived.Recover
import Derived.Shelf.Strings.Builder1
import Derived.Shelf.Strings.Prefix
import Derived.Shelf.Strings.Repeat
import Derived.StillTailTactics
import Derived.Test.YtmekmcgdjlmmcaaProg
import Derived.Test.YtmekmcgdjlmmcaaRows
import Derived.WalkKit
import Derived.WalkLawsBesides
import Derived.WalkSmall
import Derived.WalkSpells
import Derived.Test.YtmekmcgdjlmmcaaAgn1
import Derived.Test.YtmekmcgdjlmmcaaAgn2
import Derived.Test.YtmekmcgdjlmmcaaAgn3
import Derived.Test.YtmekmcgdjlmmcaaAgn4
import Derived.Test.YtmekmcgdjlmmcaaAgn5
import Derived.Test.YtmekmcgdjlmmcaaAgn6
import Derived.Test.YtmekmcgdjlmmcaaAgn7
import Derived.Test.YtmekmcgdjlmmcaaAgn8
import Derived.Test.YtmekmcgdjlmmcaaAgn9
import Derived.Test.YtmekmcgdjlmmcaaAgn10
import Derived.Test.YtmekmcgdjlmmcaaAgn11
import Derived.Test.YtmekmcgdjlmmcaaAgn12
import Derived.Test.YtmekmcgdjlmmcaaAgn13
import Derived.Test.YtmekmcgdjlmmcaaAgn14
import Derived.Test.YtmekmcgdjlmmcaaAgn15
import Derived.Test.YtmekmcgdjlmmcaaAgn16
import Derived.Test.YtmekmcgdjlmmcaaAgn18
namespace Go.Proofs.Ytmekmcgdjlmmcaa
open Go.RowKit Go.Deep
set_option linter.unusedVariables false
set_option linter.unusedSimpArgs false

theorem one_rec (w : World) (a : MsgM) (va : Value) : ∀ k p, [(a, va)][k]? = some p → ∀ i, i < 10 → (w.alloc (.cells #[.int .i64 a.kind, .int .i64 a.queue, .int .i64 a.due, .int .i64 a.retry, .int .i64 a.ref, .int .i64 a.born, .string a.topic, .string a.tag, .string a.body, va] 24)).cell? ⟨w.heap.size, k * 10 + i, none⟩ = (p.1.cells p.2)[i]? := by
  intro k p hp i hi
  have hc : ∀ j, (w.alloc (.cells #[.int .i64 a.kind, .int .i64 a.queue, .int .i64 a.due, .int .i64 a.retry, .int .i64 a.ref, .int .i64 a.born, .string a.topic, .string a.tag, .string a.body, va] 24)).cell? ⟨w.heap.size, j, none⟩ = (#[.int .i64 a.kind, .int .i64 a.queue, .int .i64 a.due, .int .i64 a.retry, .int .i64 a.ref, .int .i64 a.born, .string a.topic, .string a.tag, .string a.body, va] : Array Value)[j]? := (Box.new w _).cell
  rw [hc]
  match k, hp with
  | 0, hp =>
    simp only [List.getElem?_cons_zero, Option.some.injEq] at hp
    subst hp
    have : i = 0 ∨ i = 1 ∨ i = 2 ∨ i = 3 ∨ i = 4 ∨ i = 5 ∨ i = 6 ∨ i = 7 ∨ i = 8 ∨ i = 9 := by omega
    rcases this with rfl | rfl | rfl | rfl | rfl | rfl | rfl | rfl | rfl | rfl <;> rfl
  | k + 1, hp => simp at hp
theorem Fine.sound {m : MsgM} (h : Fine m) : Sound m := ⟨Nat.le_trans h.topic (by decide), Nat.le_trans h.tag (by decide), Nat.le_trans h.body (by decide), Nat.le_trans h.many (by decide), fun t ht => Nat.le_trans (h.keys t ht) (by decide)⟩
theorem Sized.below {w w' : World} {p : MsgM × Value} (h : Sized w p) (hb : Below w.heap.size w w') : Sized w' p := ⟨h.strs.below hb (Nat.le_refl _), h.body, h.topic, h.tag, h.many, h.keys⟩
theorem right_parts {m : MsgM} (h : rightB m = true) (hk : m.kind = 1 ∨ m.kind = 3) : tagB m.tag = true ∧ keysB m.keys = true ∧ m.body.size ≤ 200 ∧ 0 ≤ m.retry ∧ m.retry ≤ 4 := by
  have h2 := right_whole h hk
  unfold wholeB at h2
  simp only [Bool.and_eq_true, decide_eq_true_eq] at h2
  obtain ⟨_, h3, _, h5, h6, h7⟩ := h2
  unfold allIn at h3
  simp at h3
  exact ⟨h5, h6, h7, h3.1, h3.2⟩
theorem right_up (m : MsgM) (s : ByteArray) (now : Int) (hf : Fine m) (hg : groupB s = true) (h : rightB m = true) (hk : m.kind = 1 ∨ m.kind = 3) (hn : 0 ≤ now ∧ now ≤ 1099511626776) : rightB (upM m (deadH ++ s) now) = true := by
  obtain ⟨h5, h6, h7, h8, h9⟩ := right_parts h hk
  have h1 := hn.1
  have h2 := hn.2
  unfold rightB restB wholeB upM MsgM.nums allIn
  dsimp only
  rw [h5, h6, dead_topic hg]
  simp
  omega
theorem right_re (m : MsgM) (id : Int) (s : ByteArray) (now : Int) (hf : Fine m) (hg : groupB s = true) (h : rightB m = true) (hk : m.kind = 1 ∨ m.kind = 3) (h4 : m.retry < 4) (hi : 0 ≤ id ∧ id ≤ 1099511626776) (hn : 0 ≤ now ∧ now ≤ 1099511626776) : rightB (reM m id (retryH ++ s) now) = true := by
  obtain ⟨h5, h6, h7, h8, h9⟩ := right_parts h hk
  have h1 := hn.1
  have h2 := hn.2
  have h3 := hi.1
  have h10 := hi.2
  have hd := delayN_le (m.retry + 1)
  obtain ⟨hd0, hd1⟩ := hd
  unfold rightB restB wholeB reM MsgM.nums allIn
  dsimp only
  rw [h5, h6, retry_topic hg]
  simp
  omega
theorem again_sound {m x : MsgM} (hf : Fine m) (_ : True) (_ : True) (ht : x.topic.size ≤ 1000) (h1 : x.tag = m.tag) (h2 : x.body = m.body) (h3 : x.keys = m.keys) : Sound x :=
  ⟨Nat.le_trans ht (by decide), by rw [h1]; exact hf.sound.tag, by rw [h2]; exact hf.sound.body, by rw [h3]; exact hf.sound.many, by rw [h3]; exact hf.sound.keys⟩
theorem small_any (n : Int) (w : World) : Calls Try.prog 9 #[.int .i64 n] w fun e w' => e = .returned (.bool (smallB n)) ∧ w = w' := by
  unfold smallB
  by_cases h0 : 0 ≤ n
  · have z0 : decide (0 ≤ n) = true := decide_eq_true h0
    rw [z0]
    clear h0
    obtain ⟨z, hz⟩ : ∃ z, decide (n ≤ 1099511626776) = z := ⟨_, rfl⟩
    rw [hz]
    go_enter Try.func9, Try.ntmps9
    go_wp2
    go_ret
    exact ⟨rfl, rfl⟩
  · have z0 : decide (0 ≤ n) = false := decide_eq_false h0
    rw [z0]
    clear h0
    go_enter Try.func9, Try.ntmps9
    go_wp2
    go_ret
    exact ⟨rfl, rfl⟩
theorem below_alloc5 {a w : World} (h : Below a.heap.size a w) (o : Obj) : Below a.heap.size a (w.alloc o) := h.alloc h.size o
def IsTrue (w : World) (e : Ending) (w' : World) : Prop := e = .returned (.bool true) ∧ Below w.heap.size w w'
attribute [local go_sem] fr_opt in
set_option maxHeartbeats 8000000 in
set_option maxRecDepth 100000 in
theorem again_law (m : MsgM) (vk : Value) (s : ByteArray) (id now : Int) (w : World) (hz : Sized w (m, vk)) (hcap : CapOk vk) :
    Calls Try.prog 3 #[m.val vk, .string s, .agg #[.int .i64 id, .int .i64 now]] w (IsTrue w) := by
  obtain ⟨va, vl, vc, rfl, hvcap⟩ := hcap
  have hcap : CapOk (.slice va vl vc) := ⟨va, vl, vc, rfl, hvcap⟩
  obtain ⟨W0, hW0⟩ : ∃ W, W = (w.alloc (.cells #[.int .i64 m.kind, .int .i64 m.queue, .int .i64 m.due, .int .i64 m.retry, .int .i64 m.ref, .int .i64 m.born, .string m.topic, .string m.tag, .string m.body, (.slice va vl vc)] 24)).alloc (.cells #[.int .i64 id, .int .i64 now] 25) := ⟨_, rfl⟩
  have hl0 : Below w.heap.size w W0 := by
    rw [hW0]
    exact ((Below.refl w.heap.size w).alloc (Nat.le_refl _) _).alloc (by simp only [World.size_alloc]; omega) _
  have hbm : Box W0 w.heap.size #[.int .i64 m.kind, .int .i64 m.queue, .int .i64 m.due, .int .i64 m.retry, .int .i64 m.ref, .int .i64 m.born, .string m.topic, .string m.tag, .string m.body, (.slice va vl vc)] := by rw [hW0]; exact (Box.new w _).alloc _
  have a0 : W0.cell? ⟨w.heap.size + 1, 0, none⟩ = some (.int .i64 id) := by rw [hW0]; simp
  have a1 : W0.cell? ⟨w.heap.size + 1, 1, none⟩ = some (.int .i64 now) := by rw [hW0]; simp
  have HW0 := Lib.hid hW0
  have HL0 := Lib.hid hl0
  have HBM := Lib.hid hbm
  have HZ := Lib.hid hz
  have HCAP := Lib.hid hcap
  have k0 := hbm.cell
  clear hz hcap hW0 hl0 hbm
  unfold MsgM.val
  unfold MsgM.cells at *
  go_enter Try.func3, Try.ntmps3
  go_wp2_with fail
  rw [← HW0.out]
  refine (lawake_any _).mono ?_
  rintro e w1 ⟨rfl, rfl⟩
  go_upto_region 3 with fail
  go_quiet (fail)
  go_wp2_with fail
  obtain ⟨W3, hW3⟩ : ∃ W, W = (W0.drewN nq).alloc (.cells #[.int .i64 m.kind, .int .i64 m.queue, .int .i64 m.due, .int .i64 m.retry, .int .i64 m.ref, .int .i64 m.born, .string m.topic, .string m.tag, .string m.body, (.slice va vl vc)] 24) := ⟨_, rfl⟩
  rw [← hW3]
  have hl3 : Below W0.heap.size W0 W3 := by rw [hW3]; exact below_alloc5 (below_drewN (Below.refl _ _) _) _
  have h3o : ∀ k p, [(m, (.slice va vl vc))][k]? = some p → ∀ i, i < 10 → W3.cell? ⟨W0.heap.size, k * 10 + i, none⟩ = (p.1.cells p.2)[i]? := by rw [hW3]; exact one_rec (W0.drewN nq) m (.slice va vl vc)
  have hlt3 : W0.heap.size < W3.heap.size := by rw [hW3, World.size_alloc]; exact Nat.lt_succ_self _
  have hz3 : Sized W3 (m, (.slice va vl vc)) := (HZ.out.below HL0.out).below hl3
  refine (great_any [(m, (.slice va vl vc))] W0.heap.size 1 W3 hlt3 rfl (by decide) (fun p hp => by rw [List.mem_singleton.1 hp]; exact hz3) h3o).mono ?_
  rintro e w4 ⟨x, rfl, hfine, hb4⟩
  have hl4 := hl3.trans (hb4.mono hl3.size)
  have hbm4 := HBM.out.below hl4 HBM.out.lt
  have hz4 := (HZ.out.below HL0.out).below hl4
  have HL4 := Lib.hid (HL0.out.trans (hl4.mono HL0.out.size))
  have HBM4 := Lib.hid hbm4
  have HZ4 := Lib.hid hz4
  have HFINE := Lib.hid hfine
  clear k0 a0 a1 hW3 hl3 h3o hlt3 hz3 hb4 hl4 hz4 hfine
  cases x
  case true =>
    clear hbm4
    go_wp2_with fail
    go_ret
    exact ⟨rfl, HL4.out⟩
  have k0 := hbm4.cell
  clear hbm4
  by_cases hlen : (100 : Int) < s.size
  · have hle : decide ((100 : Int) < s.size) = true := decide_eq_true hlen
    go_wp2_with fail
    go_ret
    exact ⟨rfl, HL4.out⟩
  have hle : decide ((100 : Int) < s.size) = false := decide_eq_false hlen
  have hsz : s.size ≤ maxLen := by unfold maxLen; omega
  have hfn : Fine m := HFINE.out rfl _ (List.mem_singleton.2 rfl)
  obtain ⟨xa, hxa⟩ : ∃ x, againM m id s now = x := ⟨_, rfl⟩
  have HXA := Lib.hid hxa
  have HFN := Lib.hid hfn
  have HSZ := Lib.hid hsz
  go_wp2_with fail
  refine (again_any m (.slice va vl vc) id s now xa _ HZ4.out.strs HCAP.out hfn.sound (Nat.le_trans hfn.many (by decide)) hsz hxa).mono ?_
  rintro e w5 ⟨ka, kl, kc, rfl, hown, hb5⟩
  have hl5 := HL4.out.trans (hb5.mono HL4.out.size)
  have hbm5 := HBM4.out.below hb5 HBM4.out.lt
  have hz5 := HZ4.out.below hb5
  have hys : Strs w5 0 (.slice ka kl kc) xa.1.keys := Oc.strs_own (owns_base hown (Nat.zero_le _))
  obtain ⟨⟨y1, y2, y3, y4, y5, y6, y7, y8, y9, y10⟩, er⟩ := xa
  dsimp only at hys hown
  have HL5 := Lib.hid hl5
  have HBM5 := Lib.hid hbm5
  have HZ5 := Lib.hid hz5
  have HYS := Lib.hid hys
  clear k0 hown hb5 hl5 hbm5 hz5 hys hxa hfn hsz
  unfold MsgM.val MsgM.cells
  dsimp only
  go_upto_region 8 with fail
  obtain ⟨W6, hW6⟩ : ∃ W, W = w5.alloc (.cells #[.int .i64 y1, .int .i64 y2, .int .i64 y3, .int .i64 y4, .int .i64 y5, .int .i64 y6, .string y7, .string y8, .string y9, .slice ka kl kc] 24) := ⟨_, rfl⟩
  rw [← hW6]
  have hl6 : Below w5.heap.size w5 W6 := by rw [hW6]; exact (Below.refl _ _).alloc (Nat.le_refl _) _
  have hby : Box W6 w5.heap.size #[.int .i64 y1, .int .i64 y2, .int .i64 y3, .int .i64 y4, .int .i64 y5, .int .i64 y6, .string y7, .string y8, .string y9, .slice ka kl kc] := by rw [hW6]; exact Box.new w5 _
  have hbm6 := HBM5.out.below hl6 HBM5.out.lt
  have HL6 := Lib.hid (HL5.out.trans (hl6.mono HL5.out.size))
  have HZ6 := Lib.hid (HZ5.out.below hl6)
  have HYS6 := Lib.hid (HYS.out.below hl6 (Nat.le_refl _))
  have HBY := Lib.hid hby
  have HBM6 := Lib.hid hbm6
  have HL65 := Lib.hid hl6
  clear hW6 hl6 HL0 HBM HZ HL4 HBM4 HZ4 HL5 HBM5 HFINE HW0
  by_cases hg : groupB s = true
  case neg =>
    have hgf : groupB s = false := by simpa using hg
    have hxa := HXA.out
    unfold againM at hxa
    rw [if_pos hgf] at hxa
    simp only [zeroM, Prod.mk.injEq, MsgM.mk.injEq] at hxa
    obtain ⟨⟨rfl, rfl, rfl, rfl, rfl, rfl, rfl, rfl, rfl, rfl⟩, rfl⟩ := hxa
    clear HXA hg
    have k0 := hby.cell
    clear hby hbm6
    have HG := Lib.hid (refGroup_any s W6 HSZ.out)
    rw [hgf] at HG
    have HSM := Lib.hid (rsame_any zeroM zeroM (.slice ka kl kc) (.slice none 0 0) true W6 HYS6.out ⟨none, 0, rfl, .inl rfl⟩ (by decide) (by decide) (sameB_iff.2 rfl))
    unfold MsgM.val MsgM.cells zeroM RSameTo at HSM
    go_wp2_with fail
    refine HG.out.mono ?_
    rintro e w7 ⟨rfl, rfl⟩
    go_wp2_with fail
    refine HSM.out.mono ?_
    rintro e w7 ⟨rfl, hb⟩
    have HB7 := Lib.hid (HL6.out.trans (hb.mono HL6.out.size))
    clear hb
    go_wp2_with fail
    go_ret
    exact ⟨rfl, HB7.out⟩
  case pos =>
    have HG := Lib.hid (refGroup_any s W6 HSZ.out)
    rw [hg] at HG
    have k0 := hbm6.cell
    clear hby hbm6
    go_wp2_with fail
    refine HG.out.mono ?_
    rintro e w7 ⟨rfl, rfl⟩
    go_upto_region 10 with fail
    go_cut [47] (fun v wx => v = .bool (!(mayB m && (smallB id && smallB now))) ∧ Below W6.heap.size W6 wx)
    case first =>
      obtain ⟨rb, hrb⟩ : ∃ r, rightB m = r := ⟨_, rfl⟩
      have HR := Lib.hid (rright_any m (.slice va vl vc) rb W6 HZ6.out.strs HFN.out.sound hrb)
      unfold MsgM.val MsgM.cells at HR
      have HS1 := Lib.hid (fun W => small_any id W)
      have HS2 := Lib.hid (fun W => small_any now W)
      cases rb
      · have hmb : mayB m = false := by unfold mayB; rw [hrb]; rfl
        clear hrb
        go_wp2_with fail
        refine HR.out.mono ?_
        rintro e w8 ⟨rfl, hb⟩
        have HB8 := Lib.hid hb
        clear hb k0
        go_wp2_with fail
        go_meet
        case rel => exact ⟨by first | (rw [hmb, hpi, hqi]; rfl) | (rw [hmb]; rfl), HB8.out⟩
      · by_cases h1 : m.kind = 1
        · have hmb : mayB m = true := by unfold mayB; rw [hrb, decide_eq_true h1]; rfl
          have z1 : (m.kind != 1) = false := by rw [h1]; rfl
          clear hrb h1
          cases hpi : smallB id
          · have hsa := HS1.out
            rw [hpi] at hsa
            have HSA := Lib.hid hsa
            clear hsa
            go_wp2_with fail
            refine HR.out.mono ?_
            rintro e w8 ⟨rfl, hb⟩
            have HB8 := Lib.hid hb
            have k1 := (HBM6.out.below hb HBM6.out.lt).cell
            clear hb k0
            go_wp2_with fail
            refine (HSA.out _).mono ?_
            rintro e w9 ⟨rfl, rfl⟩
            go_wp2_with fail
            go_meet
            case rel => exact ⟨by rw [hmb, hpi]; rfl, HB8.out⟩
          · cases hqi : smallB now
            · have hsa := HS1.out
              rw [hpi] at hsa
              have HSA := Lib.hid hsa
              have hsb := HS2.out
              rw [hqi] at hsb
              have HSB := Lib.hid hsb
              clear hsa hsb
              go_wp2_with fail
              refine HR.out.mono ?_
              rintro e w8 ⟨rfl, hb⟩
              have HB8 := Lib.hid hb
              have k1 := (HBM6.out.below hb HBM6.out.lt).cell
              clear hb k0
              go_wp2_with fail
              refine (HSA.out _).mono ?_
              rintro e w9 ⟨rfl, rfl⟩
              go_wp2_with fail
              refine (HSB.out _).mono ?_
              rintro e w9 ⟨rfl, rfl⟩
              go_wp2_with fail
              go_meet
              case rel => exact ⟨by rw [hmb, hpi, hqi]; rfl, HB8.out⟩
            · have hsa := HS1.out
              rw [hpi] at hsa
              have HSA := Lib.hid hsa
              have hsb := HS2.out
              rw [hqi] at hsb
              have HSB := Lib.hid hsb
              clear hsa hsb
              go_wp2_with fail
              refine HR.out.mono ?_
              rintro e w8 ⟨rfl, hb⟩
              have HB8 := Lib.hid hb
              have k1 := (HBM6.out.below hb HBM6.out.lt).cell
              clear hb k0
              go_wp2_with fail
              refine (HSA.out _).mono ?_
              rintro e w9 ⟨rfl, rfl⟩
              go_wp2_with fail
              refine (HSB.out _).mono ?_
              rintro e w9 ⟨rfl, rfl⟩
              go_wp2_with fail
              go_meet
              case rel => exact ⟨by first | (rw [hmb, hpi, hqi]; rfl) | (rw [hmb]; rfl), HB8.out⟩
        · by_cases h3 : m.kind = 3
          · have hmb : mayB m = true := by unfold mayB; rw [hrb, decide_eq_true h3, Bool.or_true]; rfl
            have z1 : (m.kind != 1) = true := by simp [h1]
            have z3 : (m.kind != 3) = false := by rw [h3]; rfl
            clear hrb h1 h3
            cases hpi : smallB id
            · have hsa := HS1.out
              rw [hpi] at hsa
              have HSA := Lib.hid hsa
              clear hsa
              go_wp2_with fail
              refine HR.out.mono ?_
              rintro e w8 ⟨rfl, hb⟩
              have HB8 := Lib.hid hb
              have k1 := (HBM6.out.below hb HBM6.out.lt).cell
              clear hb k0
              go_wp2_with fail
              refine (HSA.out _).mono ?_
              rintro e w9 ⟨rfl, rfl⟩
              go_wp2_with fail
              go_meet
              case rel => exact ⟨by rw [hmb, hpi]; rfl, HB8.out⟩
            · cases hqi : smallB now
              · have hsa := HS1.out
                rw [hpi] at hsa
                have HSA := Lib.hid hsa
                have hsb := HS2.out
                rw [hqi] at hsb
                have HSB := Lib.hid hsb
                clear hsa hsb
                go_wp2_with fail
                refine HR.out.mono ?_
                rintro e w8 ⟨rfl, hb⟩
                have HB8 := Lib.hid hb
                have k1 := (HBM6.out.below hb HBM6.out.lt).cell
                clear hb k0
                go_wp2_with fail
                refine (HSA.out _).mono ?_
                rintro e w9 ⟨rfl, rfl⟩
                go_wp2_with fail
                refine (HSB.out _).mono ?_
                rintro e w9 ⟨rfl, rfl⟩
                go_wp2_with fail
                go_meet
                case rel => exact ⟨by rw [hmb, hpi, hqi]; rfl, HB8.out⟩
              · have hsa := HS1.out
                rw [hpi] at hsa
                have HSA := Lib.hid hsa
                have hsb := HS2.out
                rw [hqi] at hsb
                have HSB := Lib.hid hsb
                clear hsa hsb
                go_wp2_with fail
                refine HR.out.mono ?_
                rintro e w8 ⟨rfl, hb⟩
                have HB8 := Lib.hid hb
                have k1 := (HBM6.out.below hb HBM6.out.lt).cell
                clear hb k0
                go_wp2_with fail
                refine (HSA.out _).mono ?_
                rintro e w9 ⟨rfl, rfl⟩
                go_wp2_with fail
                refine (HSB.out _).mono ?_
                rintro e w9 ⟨rfl, rfl⟩
                go_wp2_with fail
                go_meet
                case rel => exact ⟨by first | (rw [hmb, hpi, hqi]; rfl) | (rw [hmb]; rfl), HB8.out⟩
          · have hmb : mayB m = false := by unfold mayB; rw [hrb, decide_eq_false h1, decide_eq_false h3]; rfl
            have z1 : (m.kind != 1) = true := by simp [h1]
            have z3 : (m.kind != 3) = true := by simp [h3]
            clear hrb h1 h3
            go_wp2_with fail
            refine HR.out.mono ?_
            rintro e w8 ⟨rfl, hb⟩
            have HB8 := Lib.hid hb
            have k1 := (HBM6.out.below hb HBM6.out.lt).cell
            clear hb k0
            go_wp2_with fail
            go_meet
            case rel => exact ⟨by first | (rw [hmb, hpi, hqi]; rfl) | (rw [hmb]; rfl), HB8.out⟩
    case rest =>
      obtain ⟨rfl, hbc⟩ := hcut
      have HBC := Lib.hid hbc
      clear hbc k0
      cases hok : (mayB m && (smallB id && smallB now))
      · have hxa := HXA.out
        unfold againM at hxa
        rw [if_neg (by rw [hg]; decide), if_pos hok] at hxa
        simp only [zeroM, Prod.mk.injEq, MsgM.mk.injEq] at hxa
        obtain ⟨⟨rfl, rfl, rfl, rfl, rfl, rfl, rfl, rfl, rfl, rfl⟩, rfl⟩ := hxa
        clear HXA hg
        have k0 := (HBY.out.below HBC.out HBY.out.lt).cell
        have HSM := Lib.hid (fun W h => rsame_any zeroM zeroM (.slice ka kl kc) (.slice none 0 0) true W (HYS6.out.below (show Below W6.heap.size W6 W from h) (Nat.le_refl _)) ⟨none, 0, rfl, .inl rfl⟩ (by decide) (by decide) (sameB_iff.2 rfl))
        unfold MsgM.val MsgM.cells zeroM RSameTo at HSM
        go_wp2_with fail
        refine (HSM.out _ HBC.out).mono ?_
        rintro e w7 ⟨rfl, hb⟩
        have HB7 := Lib.hid ((HL6.out.trans (HBC.out.mono HL6.out.size)).trans (hb.mono (Nat.le_trans HL6.out.size HBC.out.size)))
        clear hb
        go_wp2_with fail
        go_ret
        exact ⟨rfl, HB7.out⟩
      · have hb1 := hok
        rw [Bool.and_eq_true, Bool.and_eq_true] at hb1
        have hmr := may_right hb1.1
        have hr0 := right_retry hmr.1 hmr.2
        have hid := hb1.2.1
        have hnw := hb1.2.2
        unfold smallB at hid hnw
        simp only [Bool.and_eq_true, decide_eq_true_eq] at hid hnw
        have HOK := Lib.hid (And.intro hmr (And.intro hid hnw))
        obtain ⟨hid0, hid1⟩ := hid
        obtain ⟨hnw0, hnw1⟩ := hnw
        have hxa := HXA.out
        unfold againM at hxa
        rw [if_neg (by rw [hg]; decide), if_neg (by rw [hok]; decide)] at hxa
        have k0 := (HBM6.out.below HBC.out HBM6.out.lt).cell
        have hlc := HL6.out.trans (HBC.out.mono HL6.out.size)
        have HLC := Lib.hid hlc
        have hzc := HZ6.out.below HBC.out
        have HZC := Lib.hid hzc
        have hysc := HYS6.out.below HBC.out (Nat.le_refl _)
        have HYC := Lib.hid hysc
        have hbyc := HBY.out.below HBC.out HBY.out.lt
        have HBYC := Lib.hid hbyc
        have HC5 : Hid (Below w5.heap.size w5 wc) := Lib.hid (HL65.out.trans (HBC.out.mono HL65.out.size))
        have HBMC := Lib.hid (HBM6.out.below HBC.out HBM6.out.lt)
        clear HXA hb1 hmr hlc hzc hysc hbyc HBC HBY HYS6 HZ6 HL6 HBM6 hok
        have hadd1 : ∀ W, (Op.stringOp .add ⟨#[37, 100, 101, 97, 100, 37]⟩ s).run Try.prog W = .ok (.string (deadH ++ s)) W := fun W => run_string_add W _ s (by decide) (by omega)
        have hadd2 : ∀ W, (Op.stringOp .add ⟨#[37, 114, 101, 116, 114, 121, 37]⟩ s).run Try.prog W = .ok (.string (retryH ++ s)) W := fun W => run_string_add W _ s (by decide) (by omega)
        go_upto_region 13 with fail
        obtain ⟨QB, hQB⟩ : ∃ q, q = wc.heap.size := ⟨_, rfl⟩
        obtain ⟨W9, hW9⟩ : ∃ W, W = wc.alloc (.cells #[.int .i64 1, .int .i64 0, .int .i64 0, .int .i64 m.retry, .int .i64 0, .int .i64 now, .string (deadH ++ s), .string m.tag, .string m.body, (.slice va vl vc)] 24) := ⟨_, rfl⟩
        rw [← hW9, ← hQB]
        have hl9 : Below wc.heap.size wc W9 := by rw [hW9]; exact (Below.refl _ _).alloc (Nat.le_refl _) _
        have hbw : Box W9 QB #[.int .i64 1, .int .i64 0, .int .i64 0, .int .i64 m.retry, .int .i64 0, .int .i64 now, .string (deadH ++ s), .string m.tag, .string m.body, (.slice va vl vc)] := by rw [hW9, hQB]; exact Box.new wc _
        have hbm9 : Box W9 w.heap.size #[.int .i64 m.kind, .int .i64 m.queue, .int .i64 m.due, .int .i64 m.retry, .int .i64 m.ref, .int .i64 m.born, .string m.topic, .string m.tag, .string m.body, (.slice va vl vc)] := HBMC.out.below hl9 HBMC.out.lt
        have HQL : Hid (w.heap.size ≤ QB ∧ w5.heap.size ≤ QB) := Lib.hid ⟨by rw [hQB]; exact HLC.out.size, by rw [hQB]; exact Nat.le_of_lt HBYC.out.lt⟩
        have hqm : QB ≠ w.heap.size ∧ QB ≠ w5.heap.size := by have := HBMC.out.lt; have := HBYC.out.lt; omega
        have HQM := Lib.hid hqm
        have HL9 := Lib.hid hl9
        have HLC9 := Lib.hid (HLC.out.trans (hl9.mono HLC.out.size))
        have HBW := Lib.hid hbw
        have HBM9 := Lib.hid hbm9
        clear k0
        have k0 := hbm9.cell
        clear hW9 hl9 hbw hbm9 hQB hqm
        by_cases h4 : m.retry < 4
        case neg =>
          rw [if_neg h4] at hxa
          have HRG := Lib.hid (right_up m s now HFN.out hg HOK.out.1.1 HOK.out.1.2 HOK.out.2.2)
          simp only [upM, Prod.mk.injEq, MsgM.mk.injEq] at hxa
          obtain ⟨⟨rfl, rfl, rfl, rfl, rfl, rfl, rfl, rfl, rfl, rfl⟩, rfl⟩ := hxa
          have z4 : decide (m.retry < 4) = false := decide_eq_false h4
          go_upto_region 16 with fail
          have hbyw : Box W9 w5.heap.size #[.int .i64 1, .int .i64 0, .int .i64 0, .int .i64 m.retry, .int .i64 0, .int .i64 now, .string (deadH ++ s), .string m.tag, .string m.body, .slice ka kl kc] := HBYC.out.below HL9.out HBYC.out.lt
          have hbw : Box W9 QB #[.int .i64 1, .int .i64 0, .int .i64 0, .int .i64 m.retry, .int .i64 0, .int .i64 now, .string (deadH ++ s), .string m.tag, .string m.body, (.slice va vl vc)] := HBW.out
          have hl5 : Below w5.heap.size w5 W9 := HC5.out.trans (HL9.out.mono HC5.out.size)
          have HBT : Hid (∀ W, Below W9.heap.size W9 W → Box W w5.heap.size #[.int .i64 1, .int .i64 0, .int .i64 0, .int .i64 m.retry, .int .i64 0, .int .i64 now, .string (deadH ++ s), .string m.tag, .string m.body, .slice ka kl kc] ∧ Box W QB #[.int .i64 1, .int .i64 0, .int .i64 0, .int .i64 m.retry, .int .i64 0, .int .i64 now, .string (deadH ++ s), .string m.tag, .string m.body, (.slice va vl vc)]) := Lib.hid fun W h => ⟨hbyw.below h hbyw.lt, hbw.below h hbw.lt⟩
          have HSM : Hid (∀ W, Below W9.heap.size W9 W → Calls Try.prog 11 #[.agg #[.int .i64 1, .int .i64 0, .int .i64 0, .int .i64 m.retry, .int .i64 0, .int .i64 now, .string (deadH ++ s), .string m.tag, .string m.body, .slice ka kl kc], .agg #[.int .i64 1, .int .i64 0, .int .i64 0, .int .i64 m.retry, .int .i64 0, .int .i64 now, .string (deadH ++ s), .string m.tag, .string m.body, (.slice va vl vc)]] W (RSameTo true W)) := Lib.hid (fun W h => rsame_any (upM m (deadH ++ s) now) (upM m (deadH ++ s) now) (.slice ka kl kc) (.slice va vl vc) true W (HYS.out.below (hl5.trans (h.mono hl5.size)) (Nat.le_refl _)) (HZ5.out.strs.below (hl5.trans (h.mono hl5.size)) (Nat.le_refl _)) (Nat.le_trans HFN.out.many (by decide)) (Nat.le_trans HFN.out.many (by decide)) (sameB_iff.2 rfl))
          have HRR : Hid (∀ W, Below W9.heap.size W9 W → Calls Try.prog 12 #[.agg #[.int .i64 1, .int .i64 0, .int .i64 0, .int .i64 m.retry, .int .i64 0, .int .i64 now, .string (deadH ++ s), .string m.tag, .string m.body, .slice ka kl kc]] W (RSameTo true W)) := Lib.hid (fun W h => rright_any (upM m (deadH ++ s) now) (.slice ka kl kc) true W (HYS.out.below (hl5.trans (h.mono hl5.size)) (Nat.le_refl _)) (again_sound HFN.out trivial trivial (by show (deadH ++ s).size ≤ 1000; rw [ByteArray.size_append]; have : deadH.size = 6 := rfl; omega) rfl rfl rfl) HRG.out)
          clear hbyw hbw hl5 k0 hadd1 hadd2
          refine region_inv' (n := 143) rfl rfl (by kernel_rfl) (by kernel_rfl) (fun i v _ => match i with | 0 => v = .int .i64 0 | 1 => v = .bool true | 2 => v = .bool true | 3 => v = gv (true) (.agg #[.int .i64 1, .int .i64 0, .int .i64 0, .int .i64 m.retry, .int .i64 0, .int .i64 now, .string (deadH ++ s), .string m.tag, .string m.body, .slice ka kl kc]) | 4 => v = gv (true) (.agg #[.int .i64 1, .int .i64 0, .int .i64 0, .int .i64 m.retry, .int .i64 0, .int .i64 now, .string (deadH ++ s), .string m.tag, .string m.body, (.slice va vl vc)]) | 5 => v = gv (true) (.bool true) | 6 => v = .bool true | 7 => v = .bool true | 8 => v = gv (true) (.agg #[.int .i64 1, .int .i64 0, .int .i64 0, .int .i64 m.retry, .int .i64 0, .int .i64 now, .string (deadH ++ s), .string m.tag, .string m.body, .slice ka kl kc]) | 9 => v = gv (true) (.bool true) | 10 => v = .bool true | 11 => v = .bool true | 12 => v = gv (true) (.pointer (some ⟨w5.heap.size, 0, none⟩)) | 13 => v = gv (true) (.int .i64 1) | 14 => v = gv (true) (.bool true) | 15 => v = gv (true) (.bool true) | 16 => v = gv (false) (.pointer (some ⟨w5.heap.size, 2, none⟩)) | 17 => v = gv (false) (.int .i64 0) | 18 => v = gv (false) (.int .i64 now) | 19 => v = gv (false) (.int .i64 0) | 20 => v = gv (false) (.pointer (some ⟨w5.heap.size, 3, none⟩)) | 21 => v = gv (false) (.int .i64 0) | 22 => v = gv (false) (.int .i64 0) | 23 => v = gv (false) (.bool true) | 24 => v = gv (true) (.bool true) | 25 => v = .bool true | 26 => v = .bool true | _ => True)
            (fun w' => Below W9.heap.size W9 w') (fun w' w2 => Below W9.heap.size w' w2) (fun w' => Below.refl _ _) (fun _ _ _ _ _ h => h) (Below.refl _ _).drew ?_ ?_
          · simp only [AllAt]
            refine ⟨?_, ?_, ?_, ?_, ?_, ?_, ?_, ?_, ?_, ?_, ?_, ?_, ?_, ?_, ?_, ?_, ?_, ?_, ?_, ?_, ?_, ?_, ?_, ?_, ?_, ?_, ?_, trivial⟩
            · refine StepAt.plain rfl ?_
              intro f w' hG hfr hp Kx hK
              have g10 : f 10 = .int .i64 0 := hfr 10 (by kernel_rfl)
              clear hfr hp
              go_simp
              exact hK _ _ rfl hG (Below.refl _ _)
            · refine StepAt.plain rfl ?_
              intro f w' hG hfr hp Kx hK
              have g117 : f 117 = .int .i64 0 := hp 0 _ 117 rfl rfl (by kernel_rfl)
              clear hfr hp
              go_simp
              exact hK _ _ rfl hG (Below.refl _ _)
            · refine StepAt.plain rfl ?_
              intro f w' hG hfr hp Kx hK
              have g118 : f 118 = .bool true := hp 1 _ 118 rfl rfl (by kernel_rfl)
              clear hfr hp
              go_simp
              exact hK _ _ rfl hG (Below.refl _ _)
            · refine StepAt.guarded 2 119 true _ rfl rfl rfl (by decide) (by kernel_rfl) (true) (by intro w v h; (have h : v = .bool true := h); rw [h]; (simp [gv, undef])) (by intro h w; show undef = gv (true) _; rw [h]; rfl) ?_
              intro hc f w' hG hfr hp Kx hK
              have g9 : f 9 = .pointer (some ⟨w5.heap.size, 0, none⟩) := hfr 9 (by kernel_rfl)
              clear hfr hp
              have hbt := HBT.out _ hG
              have ky := hbt.1.cell
              have kw := hbt.2.cell
              go_simp
              exact hK _ _ rfl hG (Below.refl _ _)
            · refine StepAt.guarded 2 119 true _ rfl rfl rfl (by decide) (by kernel_rfl) (true) (by intro w v h; (have h : v = .bool true := h); rw [h]; (simp [gv, undef])) (by intro h w; show undef = gv (true) _; rw [h]; rfl) ?_
              intro hc f w' hG hfr hp Kx hK
              have g12 : f 12 = .pointer (some ⟨QB, 0, none⟩) := hfr 12 (by kernel_rfl)
              clear hfr hp
              have hbt := HBT.out _ hG
              have ky := hbt.1.cell
              have kw := hbt.2.cell
              go_simp
              exact hK _ _ rfl hG (Below.refl _ _)
            · refine StepAt.guarded 2 119 true _ rfl rfl rfl (by decide) (by kernel_rfl) (true) (by intro w v h; (have h : v = .bool true := h); rw [h]; (simp [gv, undef])) (by intro h w; show undef = gv (true) _; rw [h]; rfl) ?_
              intro hc f w' hG hfr hp Kx hK
              have g120 : f 120 = gv (true) (.agg #[.int .i64 1, .int .i64 0, .int .i64 0, .int .i64 m.retry, .int .i64 0, .int .i64 now, .string (deadH ++ s), .string m.tag, .string m.body, .slice ka kl kc]) := hp 3 _ 120 rfl rfl (by kernel_rfl)
              have g121 : f 121 = gv (true) (.agg #[.int .i64 1, .int .i64 0, .int .i64 0, .int .i64 m.retry, .int .i64 0, .int .i64 now, .string (deadH ++ s), .string m.tag, .string m.body, (.slice va vl vc)]) := hp 4 _ 121 rfl rfl (by kernel_rfl)
              clear hfr hp
              simp only [gv_true, gv_false, Bool.not_false, Bool.not_true, Bool.and_true, Bool.true_and] at g120 g121
              go_simp
              refine (HSM.out _ hG).mono ?_
              rintro e w2 ⟨rfl, hb⟩
              exact hK _ _ rfl (Below.trans hG (Below.mono hb hG.size)) (Below.mono hb hG.size)
            · refine StepAt.plain rfl ?_
              intro f w' hG hfr hp Kx hK
              have g119 : f 119 = .bool true := hp 2 _ 119 rfl rfl (by kernel_rfl)
              have g122 : f 122 = gv (true) (.bool true) := hp 5 _ 122 rfl rfl (by kernel_rfl)
              clear hfr hp
              simp only [gv_true, gv_false] at g122
              go_simp
              exact hK _ _ rfl hG (Below.refl _ _)
            · refine StepAt.plain rfl ?_
              intro f w' hG hfr hp Kx hK
              have g123 : f 123 = .bool true := hp 6 _ 123 rfl rfl (by kernel_rfl)
              clear hfr hp
              go_simp
              exact hK _ _ rfl hG (Below.refl _ _)
            · refine StepAt.guarded 7 124 true _ rfl rfl rfl (by decide) (by kernel_rfl) (true) (by intro w v h; (have h : v = .bool true := h); rw [h]; (simp [gv, undef])) (by intro h w; show undef = gv (true) _; rw [h]; rfl) ?_
              intro hc f w' hG hfr hp Kx hK
              have g9 : f 9 = .pointer (some ⟨w5.heap.size, 0, none⟩) := hfr 9 (by kernel_rfl)
              clear hfr hp
              have hbt := HBT.out _ hG
              have ky := hbt.1.cell
              have kw := hbt.2.cell
              go_simp
              exact hK _ _ rfl hG (Below.refl _ _)
            · refine StepAt.guarded 7 124 true _ rfl rfl rfl (by decide) (by kernel_rfl) (true) (by intro w v h; (have h : v = .bool true := h); rw [h]; (simp [gv, undef])) (by intro h w; show undef = gv (true) _; rw [h]; rfl) ?_
              intro hc f w' hG hfr hp Kx hK
              have g125 : f 125 = gv (true) (.agg #[.int .i64 1, .int .i64 0, .int .i64 0, .int .i64 m.retry, .int .i64 0, .int .i64 now, .string (deadH ++ s), .string m.tag, .string m.body, .slice ka kl kc]) := hp 8 _ 125 rfl rfl (by kernel_rfl)
              clear hfr hp
              simp only [gv_true, gv_false, Bool.not_false, Bool.not_true, Bool.and_true, Bool.true_and] at g125
              go_simp
              refine (HRR.out _ hG).mono ?_
              rintro e w2 ⟨rfl, hb⟩
              exact hK _ _ rfl (Below.trans hG (Below.mono hb hG.size)) (Below.mono hb hG.size)
            · refine StepAt.plain rfl ?_
              intro f w' hG hfr hp Kx hK
              have g124 : f 124 = .bool true := hp 7 _ 124 rfl rfl (by kernel_rfl)
              have g126 : f 126 = gv (true) (.bool true) := hp 9 _ 126 rfl rfl (by kernel_rfl)
              clear hfr hp
              simp only [gv_true, gv_false] at g126
              go_simp
              exact hK _ _ rfl hG (Below.refl _ _)
            · refine StepAt.plain rfl ?_
              intro f w' hG hfr hp Kx hK
              have g127 : f 127 = .bool true := hp 10 _ 127 rfl rfl (by kernel_rfl)
              clear hfr hp
              go_simp
              exact hK _ _ rfl hG (Below.refl _ _)
            · refine StepAt.guarded 11 128 true _ rfl rfl rfl (by decide) (by kernel_rfl) (true) (by intro w v h; (have h : v = .bool true := h); rw [h]; (simp [gv, undef])) (by intro h w; show undef = gv (true) _; rw [h]; rfl) ?_
              intro hc f w' hG hfr hp Kx hK
              have g9 : f 9 = .pointer (some ⟨w5.heap.size, 0, none⟩) := hfr 9 (by kernel_rfl)
              clear hfr hp
              go_simp
              exact hK _ _ rfl hG (Below.refl _ _)
            · refine StepAt.guarded 11 128 true _ rfl rfl rfl (by decide) (by kernel_rfl) (true) (by intro w v h; (have h : v = .bool true := h); rw [h]; (simp [gv, undef])) (by intro h w; show undef = gv (true) _; rw [h]; rfl) ?_
              intro hc f w' hG hfr hp Kx hK
              have g129 : f 129 = gv (true) (.pointer (some ⟨w5.heap.size, 0, none⟩)) := hp 12 _ 129 rfl rfl (by kernel_rfl)
              clear hfr hp
              simp only [gv_true, gv_false, Bool.not_false, Bool.not_true, Bool.and_true, Bool.true_and] at g129
              have hbt := HBT.out _ hG
              have ky := hbt.1.cell
              have kw := hbt.2.cell
              go_simp
              exact hK _ _ rfl hG (Below.refl _ _)
            · refine StepAt.guarded 11 128 true _ rfl rfl rfl (by decide) (by kernel_rfl) (true) (by intro w v h; (have h : v = .bool true := h); rw [h]; (simp [gv, undef])) (by intro h w; show undef = gv (true) _; rw [h]; rfl) ?_
              intro hc f w' hG hfr hp Kx hK
              have g130 : f 130 = gv (true) (.int .i64 1) := hp 13 _ 130 rfl rfl (by kernel_rfl)
              clear hfr hp
              simp only [gv_true, gv_false, Bool.not_false, Bool.not_true, Bool.and_true, Bool.true_and] at g130
              go_simp
              exact hK _ _ rfl hG (Below.refl _ _)
            · refine StepAt.guarded 11 128 true _ rfl rfl rfl (by decide) (by kernel_rfl) (true) (by intro w v h; (have h : v = .bool true := h); rw [h]; (simp [gv, undef])) (by intro h w; show undef = gv (true) _; rw [h]; rfl) ?_
              intro hc f w' hG hfr hp Kx hK
              have g131 : f 131 = gv (true) (.bool true) := hp 14 _ 131 rfl rfl (by kernel_rfl)
              clear hfr hp
              simp only [gv_true, gv_false, Bool.not_false, Bool.not_true, Bool.and_true, Bool.true_and] at g131
              go_simp
              exact hK _ _ rfl hG (Below.refl _ _)
            · refine StepAt.guarded 15 132 false _ rfl rfl rfl (by decide) (by kernel_rfl) (false) (by intro w v h; (have h : v = gv (true) (.bool true) := h); rw [h]; (simp [gv, undef])) (by intro h w; show undef = gv (false) _; rw [h]; rfl) ?_
              intro hc
              cases hc
            · refine StepAt.guarded 15 132 false _ rfl rfl rfl (by decide) (by kernel_rfl) (false) (by intro w v h; (have h : v = gv (true) (.bool true) := h); rw [h]; (simp [gv, undef])) (by intro h w; show undef = gv (false) _; rw [h]; rfl) ?_
              intro hc
              cases hc
            · refine StepAt.guarded 15 132 false _ rfl rfl rfl (by decide) (by kernel_rfl) (false) (by intro w v h; (have h : v = gv (true) (.bool true) := h); rw [h]; (simp [gv, undef])) (by intro h w; show undef = gv (false) _; rw [h]; rfl) ?_
              intro hc
              cases hc
            · refine StepAt.guarded 15 132 false _ rfl rfl rfl (by decide) (by kernel_rfl) (false) (by intro w v h; (have h : v = gv (true) (.bool true) := h); rw [h]; (simp [gv, undef])) (by intro h w; show undef = gv (false) _; rw [h]; rfl) ?_
              intro hc
              cases hc
            · refine StepAt.guarded 15 132 false _ rfl rfl rfl (by decide) (by kernel_rfl) (false) (by intro w v h; (have h : v = gv (true) (.bool true) := h); rw [h]; (simp [gv, undef])) (by intro h w; show undef = gv (false) _; rw [h]; rfl) ?_
              intro hc
              cases hc
            · refine StepAt.guarded 15 132 false _ rfl rfl rfl (by decide) (by kernel_rfl) (false) (by intro w v h; (have h : v = gv (true) (.bool true) := h); rw [h]; (simp [gv, undef])) (by intro h w; show undef = gv (false) _; rw [h]; rfl) ?_
              intro hc
              cases hc
            · refine StepAt.guarded 15 132 false _ rfl rfl rfl (by decide) (by kernel_rfl) (false) (by intro w v h; (have h : v = gv (true) (.bool true) := h); rw [h]; (simp [gv, undef])) (by intro h w; show undef = gv (false) _; rw [h]; rfl) ?_
              intro hc
              cases hc
            · refine StepAt.guarded 15 132 false _ rfl rfl rfl (by decide) (by kernel_rfl) (false) (by intro w v h; (have h : v = gv (true) (.bool true) := h); rw [h]; (simp [gv, undef])) (by intro h w; show undef = gv (false) _; rw [h]; rfl) ?_
              intro hc
              cases hc
            · refine StepAt.guarded 11 128 true _ rfl rfl rfl (by decide) (by kernel_rfl) (true) (by intro w v h; (have h : v = .bool true := h); rw [h]; (simp [gv, undef])) (by intro h w; show undef = gv (true) _; rw [h]; rfl) ?_
              intro hc f w' hG hfr hp Kx hK
              have g132 : f 132 = gv (true) (.bool true) := hp 15 _ 132 rfl rfl (by kernel_rfl)
              have g140 : f 140 = gv (false) (.bool true) := hp 23 _ 140 rfl rfl (by kernel_rfl)
              clear hfr hp
              simp only [gv_true, gv_false, Bool.not_false, Bool.not_true, Bool.and_true, Bool.true_and] at g132 g140
              go_simp
              exact hK _ _ rfl hG (Below.refl _ _)
            · refine StepAt.plain rfl ?_
              intro f w' hG hfr hp Kx hK
              have g128 : f 128 = .bool true := hp 11 _ 128 rfl rfl (by kernel_rfl)
              have g141 : f 141 = gv (true) (.bool true) := hp 24 _ 141 rfl rfl (by kernel_rfl)
              clear hfr hp
              simp only [gv_true, gv_false] at g141
              go_simp
              exact hK _ _ rfl hG (Below.refl _ _)
            · refine StepAt.plain rfl ?_
              intro f w' hG hfr hp Kx hK
              have g142 : f 142 = .bool true := hp 25 _ 142 rfl rfl (by kernel_rfl)
              clear hfr hp
              go_simp
              exact hK _ _ rfl hG (Below.refl _ _)
          · intro f w' hG hfr hR
            have g6 : f 6 = .bool true := hR 26 _ 6 rfl rfl
            have HBE := Lib.hid hG
            clear hfr hR hG
            go_wp2_with fail
            go_ret
            refine ⟨?_, HLC9.out.trans (HBE.out.mono HLC9.out.size)⟩
            show Ending.returned ((Fr 143 f).tmps.getD 6 undef) = _
            rw [fr_get (by decide), g6]
        case pos =>
          rw [if_pos h4] at hxa
          have HRG := Lib.hid (right_re m id s now HFN.out hg HOK.out.1.1 HOK.out.1.2 h4 HOK.out.2.1 HOK.out.2.2)
          obtain ⟨d, hd⟩ : ∃ d, delayN (m.retry + 1) = d := ⟨_, rfl⟩
          have hd0 : 0 ≤ d ∧ d ≤ 16 := hd ▸ delayN_le _
          obtain ⟨hd0, hd1⟩ := hd0
          have HRE : Hid (rightB ⟨2, 0, now + d, m.retry + 1, id, now, retryH ++ s, m.tag, m.body, m.keys⟩ = true) := Lib.hid (by rw [← hd]; exact HRG.out)
          simp only [reM, hd, Prod.mk.injEq, MsgM.mk.injEq] at hxa
          obtain ⟨⟨rfl, rfl, rfl, rfl, rfl, rfl, rfl, rfl, rfl, rfl⟩, rfl⟩ := hxa
          have z4 : decide (m.retry < 4) = true := decide_eq_true h4
          have HD := Lib.hid hd
          clear hd HRG
          go_upto_region 14 with fail
          go_cut [13] (fun v wx => v = .int .i64 d ∧ Below W9.heap.size W9 wx)
          case first =>
            have h5 : m.retry = 0 ∨ m.retry = 1 ∨ m.retry = 2 ∨ m.retry = 3 := by omega
            have hb9 : ∀ o, Below W9.heap.size W9 (W9.alloc o) := fun o => (Below.refl _ _).alloc (Nat.le_refl _) o
            have HB9 := Lib.hid hb9
            clear hb9
            have hdd := HD.out
            clear k0
            have k0 : ∀ (o : Obj) (i : Nat), (W9.alloc o).cell? ⟨w.heap.size, i, none⟩ = (#[.int .i64 m.kind, .int .i64 m.queue, .int .i64 m.due, .int .i64 m.retry, .int .i64 m.ref, .int .i64 m.born, .string m.topic, .string m.tag, .string m.body, (.slice va vl vc)] : Array Value)[i]? := fun o => (HBM9.out.alloc o).cell
            rcases h5 with h5 | h5 | h5 | h5
            all_goals
              rw [h5] at hdd k0
              simp only [delayN] at hdd
              have HDD := Lib.hid hdd
              clear hdd h4 hr0 z4
              go_wp2_with fail
              go_meet
              case rel => exact ⟨by rw [← HDD.out]; rfl, HB9.out _⟩
          case rest =>
          obtain ⟨rfl, hbw2⟩ := hcut
          have HBW2 := Lib.hid hbw2
          have hbm10 := HBM9.out.below hbw2 HBM9.out.lt
          clear hbw2 k0
          have k0 := hbm10.cell
          have kw := (HBW.out.below HBW2.out HBW.out.lt).cell
          have kf := (HBW.out.below HBW2.out HBW.out.lt).free
          clear hbm10
          have HLN := Lib.hid (HLC9.out.trans (HBW2.out.mono HLC9.out.size))
          have HC9 := Lib.hid ((HC5.out.trans (HL9.out.mono HC5.out.size)).trans (HBW2.out.mono (Nat.le_trans HC5.out.size HL9.out.size)))
          have HBYN := Lib.hid ((HBYC.out.below HL9.out HBYC.out.lt).below HBW2.out (HBYC.out.below HL9.out HBYC.out.lt).lt)
          have HBWN := Lib.hid (HBW.out.below HBW2.out HBW.out.lt)
          go_upto_region 16 with fail
          obtain ⟨W11, hW11⟩ : ∃ W, W = set10 wc QB (.int .i64 2) (.int .i64 0) (.int .i64 (now + d)) (.int .i64 (m.retry + 1)) (.int .i64 id) (.int .i64 now) (.string (retryH ++ s)) (.string m.tag) (.string m.body) (.slice va vl vc) := ⟨_, rfl⟩
          have hby11 : Box W11 w5.heap.size #[.int .i64 2, .int .i64 0, .int .i64 (now + d), .int .i64 (m.retry + 1), .int .i64 id, .int .i64 now, .string (retryH ++ s), .string m.tag, .string m.body, .slice ka kl kc] := by rw [hW11]; exact HBYN.out.off10 HQM.out.2.symm _ _ _ _ _ _ _ _ _ _
          have hbw11 : Box W11 QB #[.int .i64 2, .int .i64 0, .int .i64 (now + d), .int .i64 (m.retry + 1), .int .i64 id, .int .i64 now, .string (retryH ++ s), .string m.tag, .string m.body, (.slice va vl vc)] := by rw [hW11]; exact HasBox.fill ⟨_, HBWN.out, rfl⟩ _ _ _ _ _ _ _ _ _ _
          have hlc11 : Below w.heap.size w W11 := by rw [hW11]; exact below_set10 HLN.out HQL.out.1 _ _ _ _ _ _ _ _ _ _
          have hc11 : Below w5.heap.size w5 W11 := by rw [hW11]; exact below_set10 HC9.out HQL.out.2 _ _ _ _ _ _ _ _ _ _
          unfold set10 at hW11
          rw [← hW11]
          have HLC9 := Lib.hid hlc11
          have HRG := HRE
          have hbyw : Box W11 w5.heap.size #[.int .i64 2, .int .i64 0, .int .i64 (now + d), .int .i64 (m.retry + 1), .int .i64 id, .int .i64 now, .string (retryH ++ s), .string m.tag, .string m.body, .slice ka kl kc] := hby11
          have hbw : Box W11 QB #[.int .i64 2, .int .i64 0, .int .i64 (now + d), .int .i64 (m.retry + 1), .int .i64 id, .int .i64 now, .string (retryH ++ s), .string m.tag, .string m.body, (.slice va vl vc)] := hbw11
          have hl5 : Below w5.heap.size w5 W11 := hc11
          have HBT : Hid (∀ W, Below W11.heap.size W11 W → Box W w5.heap.size #[.int .i64 2, .int .i64 0, .int .i64 (now + d), .int .i64 (m.retry + 1), .int .i64 id, .int .i64 now, .string (retryH ++ s), .string m.tag, .string m.body, .slice ka kl kc] ∧ Box W QB #[.int .i64 2, .int .i64 0, .int .i64 (now + d), .int .i64 (m.retry + 1), .int .i64 id, .int .i64 now, .string (retryH ++ s), .string m.tag, .string m.body, (.slice va vl vc)]) := Lib.hid fun W h => ⟨hbyw.below h hbyw.lt, hbw.below h hbw.lt⟩
          have HSM : Hid (∀ W, Below W11.heap.size W11 W → Calls Try.prog 11 #[.agg #[.int .i64 2, .int .i64 0, .int .i64 (now + d), .int .i64 (m.retry + 1), .int .i64 id, .int .i64 now, .string (retryH ++ s), .string m.tag, .string m.body, .slice ka kl kc], .agg #[.int .i64 2, .int .i64 0, .int .i64 (now + d), .int .i64 (m.retry + 1), .int .i64 id, .int .i64 now, .string (retryH ++ s), .string m.tag, .string m.body, (.slice va vl vc)]] W (RSameTo true W)) := Lib.hid (fun W h => rsame_any (⟨2, 0, now + d, m.retry + 1, id, now, retryH ++ s, m.tag, m.body, m.keys⟩) (⟨2, 0, now + d, m.retry + 1, id, now, retryH ++ s, m.tag, m.body, m.keys⟩) (.slice ka kl kc) (.slice va vl vc) true W (HYS.out.below (hl5.trans (h.mono hl5.size)) (Nat.le_refl _)) (HZ5.out.strs.below (hl5.trans (h.mono hl5.size)) (Nat.le_refl _)) (Nat.le_trans HFN.out.many (by decide)) (Nat.le_trans HFN.out.many (by decide)) (sameB_iff.2 rfl))
          have HRR : Hid (∀ W, Below W11.heap.size W11 W → Calls Try.prog 12 #[.agg #[.int .i64 2, .int .i64 0, .int .i64 (now + d), .int .i64 (m.retry + 1), .int .i64 id, .int .i64 now, .string (retryH ++ s), .string m.tag, .string m.body, .slice ka kl kc]] W (RSameTo true W)) := Lib.hid (fun W h => rright_any (⟨2, 0, now + d, m.retry + 1, id, now, retryH ++ s, m.tag, m.body, m.keys⟩) (.slice ka kl kc) true W (HYS.out.below (hl5.trans (h.mono hl5.size)) (Nat.le_refl _)) (again_sound HFN.out trivial trivial (by show (retryH ++ s).size ≤ 1000; rw [ByteArray.size_append]; have : retryH.size = 7 := rfl; omega) rfl rfl rfl) HRG.out)
          clear hbyw hbw hl5 k0 kw kf hby11 hbw11 hlc11 hc11 hW11 hadd1 hadd2
          refine region_inv' (n := 143) rfl rfl (by kernel_rfl) (by kernel_rfl) (fun i v _ => match i with | 0 => v = .int .i64 0 | 1 => v = .bool true | 2 => v = .bool true | 3 => v = gv (true) (.agg #[.int .i64 2, .int .i64 0, .int .i64 (now + d), .int .i64 (m.retry + 1), .int .i64 id, .int .i64 now, .string (retryH ++ s), .string m.tag, .string m.body, .slice ka kl kc]) | 4 => v = gv (true) (.agg #[.int .i64 2, .int .i64 0, .int .i64 (now + d), .int .i64 (m.retry + 1), .int .i64 id, .int .i64 now, .string (retryH ++ s), .string m.tag, .string m.body, (.slice va vl vc)]) | 5 => v = gv (true) (.bool true) | 6 => v = .bool true | 7 => v = .bool true | 8 => v = gv (true) (.agg #[.int .i64 2, .int .i64 0, .int .i64 (now + d), .int .i64 (m.retry + 1), .int .i64 id, .int .i64 now, .string (retryH ++ s), .string m.tag, .string m.body, .slice ka kl kc]) | 9 => v = gv (true) (.bool true) | 10 => v = .bool true | 11 => v = .bool true | 12 => v = gv (true) (.pointer (some ⟨w5.heap.size, 0, none⟩)) | 13 => v = gv (true) (.int .i64 2) | 14 => v = gv (true) (.bool false) | 15 => v = gv (true) (.bool false) | 16 => v = gv (true) (.pointer (some ⟨w5.heap.size, 2, none⟩)) | 17 => v = gv (true) (.int .i64 (now + d)) | 18 => v = gv (true) (.int .i64 now) | 19 => v = gv (true) (.int .i64 (now + d - now)) | 20 => v = gv (true) (.pointer (some ⟨w5.heap.size, 3, none⟩)) | 21 => v = gv (true) (.int .i64 (m.retry + 1)) | 22 => v = gv (true) (.int .i64 d) | 23 => v = gv (true) (.bool (now + d - now == d)) | 24 => v = gv (true) (.bool (now + d - now == d)) | 25 => v = .bool (now + d - now == d) | 26 => v = .bool (now + d - now == d) | _ => True)
            (fun w' => Below W11.heap.size W11 w') (fun w' w2 => Below W11.heap.size w' w2) (fun w' => Below.refl _ _) (fun _ _ _ _ _ h => h) (Below.refl _ _).drew ?_ ?_
          · simp only [AllAt]
            refine ⟨?_, ?_, ?_, ?_, ?_, ?_, ?_, ?_, ?_, ?_, ?_, ?_, ?_, ?_, ?_, ?_, ?_, ?_, ?_, ?_, ?_, ?_, ?_, ?_, ?_, ?_, ?_, trivial⟩
            · refine StepAt.plain rfl ?_
              intro f w' hG hfr hp Kx hK
              have g10 : f 10 = .int .i64 0 := hfr 10 (by kernel_rfl)
              clear hfr hp
              go_simp
              exact hK _ _ rfl hG (Below.refl _ _)
            · refine StepAt.plain rfl ?_
              intro f w' hG hfr hp Kx hK
              have g117 : f 117 = .int .i64 0 := hp 0 _ 117 rfl rfl (by kernel_rfl)
              clear hfr hp
              go_simp
              exact hK _ _ rfl hG (Below.refl _ _)
            · refine StepAt.plain rfl ?_
              intro f w' hG hfr hp Kx hK
              have g118 : f 118 = .bool true := hp 1 _ 118 rfl rfl (by kernel_rfl)
              clear hfr hp
              go_simp
              exact hK _ _ rfl hG (Below.refl _ _)
            · refine StepAt.guarded 2 119 true _ rfl rfl rfl (by decide) (by kernel_rfl) (true) (by intro w v h; (have h : v = .bool true := h); rw [h]; (simp [gv, undef])) (by intro h w; show undef = gv (true) _; rw [h]; rfl) ?_
              intro hc f w' hG hfr hp Kx hK
              have g9 : f 9 = .pointer (some ⟨w5.heap.size, 0, none⟩) := hfr 9 (by kernel_rfl)
              clear hfr hp
              have hbt := HBT.out _ hG
              have ky := hbt.1.cell
              have kw := hbt.2.cell
              go_simp
              exact hK _ _ rfl hG (Below.refl _ _)
            · refine StepAt.guarded 2 119 true _ rfl rfl rfl (by decide) (by kernel_rfl) (true) (by intro w v h; (have h : v = .bool true := h); rw [h]; (simp [gv, undef])) (by intro h w; show undef = gv (true) _; rw [h]; rfl) ?_
              intro hc f w' hG hfr hp Kx hK
              have g12 : f 12 = .pointer (some ⟨QB, 0, none⟩) := hfr 12 (by kernel_rfl)
              clear hfr hp
              have hbt := HBT.out _ hG
              have ky := hbt.1.cell
              have kw := hbt.2.cell
              go_simp
              exact hK _ _ rfl hG (Below.refl _ _)
            · refine StepAt.guarded 2 119 true _ rfl rfl rfl (by decide) (by kernel_rfl) (true) (by intro w v h; (have h : v = .bool true := h); rw [h]; (simp [gv, undef])) (by intro h w; show undef = gv (true) _; rw [h]; rfl) ?_
              intro hc f w' hG hfr hp Kx hK
              have g120 : f 120 = gv (true) (.agg #[.int .i64 2, .int .i64 0, .int .i64 (now + d), .int .i64 (m.retry + 1), .int .i64 id, .int .i64 now, .string (retryH ++ s), .string m.tag, .string m.body, .slice ka kl kc]) := hp 3 _ 120 rfl rfl (by kernel_rfl)
              have g121 : f 121 = gv (true) (.agg #[.int .i64 2, .int .i64 0, .int .i64 (now + d), .int .i64 (m.retry + 1), .int .i64 id, .int .i64 now, .string (retryH ++ s), .string m.tag, .string m.body, (.slice va vl vc)]) := hp 4 _ 121 rfl rfl (by kernel_rfl)
              clear hfr hp
              simp only [gv_true, gv_false, Bool.not_false, Bool.not_true, Bool.and_true, Bool.true_and] at g120 g121
              go_simp
              refine (HSM.out _ hG).mono ?_
              rintro e w2 ⟨rfl, hb⟩
              exact hK _ _ rfl (Below.trans hG (Below.mono hb hG.size)) (Below.mono hb hG.size)
            · refine StepAt.plain rfl ?_
              intro f w' hG hfr hp Kx hK
              have g119 : f 119 = .bool true := hp 2 _ 119 rfl rfl (by kernel_rfl)
              have g122 : f 122 = gv (true) (.bool true) := hp 5 _ 122 rfl rfl (by kernel_rfl)
              clear hfr hp
              simp only [gv_true, gv_false] at g122
              go_simp
              exact hK _ _ rfl hG (Below.refl _ _)
            · refine StepAt.plain rfl ?_
              intro f w' hG hfr hp Kx hK
              have g123 : f 123 = .bool true := hp 6 _ 123 rfl rfl (by kernel_rfl)
              clear hfr hp
              go_simp
              exact hK _ _ rfl hG (Below.refl _ _)
            · refine StepAt.guarded 7 124 true _ rfl rfl rfl (by decide) (by kernel_rfl) (true) (by intro w v h; (have h : v = .bool true := h); rw [h]; (simp [gv, undef])) (by intro h w; show undef = gv (true) _; rw [h]; rfl) ?_
              intro hc f w' hG hfr hp Kx hK
              have g9 : f 9 = .pointer (some ⟨w5.heap.size, 0, none⟩) := hfr 9 (by kernel_rfl)
              clear hfr hp
              have hbt := HBT.out _ hG
              have ky := hbt.1.cell
              have kw := hbt.2.cell
              go_simp
              exact hK _ _ rfl hG (Below.refl _ _)
            · refine StepAt.guarded 7 124 true _ rfl rfl rfl (by decide) (by kernel_rfl) (true) (by intro w v h; (have h : v = .bool true := h); rw [h]; (simp [gv, undef])) (by intro h w; show undef = gv (true) _; rw [h]; rfl) ?_
              intro hc f w' hG hfr hp Kx hK
              have g125 : f 125 = gv (true) (.agg #[.int .i64 2, .int .i64 0, .int .i64 (now + d), .int .i64 (m.retry + 1), .int .i64 id, .int .i64 now, .string (retryH ++ s), .string m.tag, .string m.body, .slice ka kl kc]) := hp 8 _ 125 rfl rfl (by kernel_rfl)
              clear hfr hp
              simp only [gv_true, gv_false, Bool.not_false, Bool.not_true, Bool.and_true, Bool.true_and] at g125
              go_simp
              refine (HRR.out _ hG).mono ?_
              rintro e w2 ⟨rfl, hb⟩
              exact hK _ _ rfl (Below.trans hG (Below.mono hb hG.size)) (Below.mono hb hG.size)
            · refine StepAt.plain rfl ?_
              intro f w' hG hfr hp Kx hK
              have g124 : f 124 = .bool true := hp 7 _ 124 rfl rfl (by kernel_rfl)
              have g126 : f 126 = gv (true) (.bool true) := hp 9 _ 126 rfl rfl (by kernel_rfl)
              clear hfr hp
              simp only [gv_true, gv_false] at g126
              go_simp
              exact hK _ _ rfl hG (Below.refl _ _)
            · refine StepAt.plain rfl ?_
              intro f w' hG hfr hp Kx hK
              have g127 : f 127 = .bool true := hp 10 _ 127 rfl rfl (by kernel_rfl)
              clear hfr hp
              go_simp
              exact hK _ _ rfl hG (Below.refl _ _)
            · refine StepAt.guarded 11 128 true _ rfl rfl rfl (by decide) (by kernel_rfl) (true) (by intro w v h; (have h : v = .bool true := h); rw [h]; (simp [gv, undef])) (by intro h w; show undef = gv (true) _; rw [h]; rfl) ?_
              intro hc f w' hG hfr hp Kx hK
              have g9 : f 9 = .pointer (some ⟨w5.heap.size, 0, none⟩) := hfr 9 (by kernel_rfl)
              clear hfr hp
              go_simp
              exact hK _ _ rfl hG (Below.refl _ _)
            · refine StepAt.guarded 11 128 true _ rfl rfl rfl (by decide) (by kernel_rfl) (true) (by intro w v h; (have h : v = .bool true := h); rw [h]; (simp [gv, undef])) (by intro h w; show undef = gv (true) _; rw [h]; rfl) ?_
              intro hc f w' hG hfr hp Kx hK
              have g129 : f 129 = gv (true) (.pointer (some ⟨w5.heap.size, 0, none⟩)) := hp 12 _ 129 rfl rfl (by kernel_rfl)
              clear hfr hp
              simp only [gv_true, gv_false, Bool.not_false, Bool.not_true, Bool.and_true, Bool.true_and] at g129
              have hbt := HBT.out _ hG
              have ky := hbt.1.cell
              have kw := hbt.2.cell
              go_simp
              exact hK _ _ rfl hG (Below.refl _ _)
            · refine StepAt.guarded 11 128 true _ rfl rfl rfl (by decide) (by kernel_rfl) (true) (by intro w v h; (have h : v = .bool true := h); rw [h]; (simp [gv, undef])) (by intro h w; show undef = gv (true) _; rw [h]; rfl) ?_
              intro hc f w' hG hfr hp Kx hK
              have g130 : f 130 = gv (true) (.int .i64 2) := hp 13 _ 130 rfl rfl (by kernel_rfl)
              clear hfr hp
              simp only [gv_true, gv_false, Bool.not_false, Bool.not_true, Bool.and_true, Bool.true_and] at g130
              go_simp
              exact hK _ _ rfl hG (Below.refl _ _)
            · refine StepAt.guarded 11 128 true _ rfl rfl rfl (by decide) (by kernel_rfl) (true) (by intro w v h; (have h : v = .bool true := h); rw [h]; (simp [gv, undef])) (by intro h w; show undef = gv (true) _; rw [h]; rfl) ?_
              intro hc f w' hG hfr hp Kx hK
              have g131 : f 131 = gv (true) (.bool false) := hp 14 _ 131 rfl rfl (by kernel_rfl)
              clear hfr hp
              simp only [gv_true, gv_false, Bool.not_false, Bool.not_true, Bool.and_true, Bool.true_and] at g131
              go_simp
              exact hK _ _ rfl hG (Below.refl _ _)
            · refine StepAt.guarded 15 132 false _ rfl rfl rfl (by decide) (by kernel_rfl) (true) (by intro w v h; (have h : v = gv (true) (.bool false) := h); rw [h]; (simp [gv, undef])) (by intro h w; show undef = gv (true) _; rw [h]; rfl) ?_
              intro hc f w' hG hfr hp Kx hK
              have g9 : f 9 = .pointer (some ⟨w5.heap.size, 0, none⟩) := hfr 9 (by kernel_rfl)
              clear hfr hp
              go_simp
              exact hK _ _ rfl hG (Below.refl _ _)
            · refine StepAt.guarded 15 132 false _ rfl rfl rfl (by decide) (by kernel_rfl) (true) (by intro w v h; (have h : v = gv (true) (.bool false) := h); rw [h]; (simp [gv, undef])) (by intro h w; show undef = gv (true) _; rw [h]; rfl) ?_
              intro hc f w' hG hfr hp Kx hK
              have g133 : f 133 = gv (true) (.pointer (some ⟨w5.heap.size, 2, none⟩)) := hp 16 _ 133 rfl rfl (by kernel_rfl)
              clear hfr hp
              simp only [gv_true, gv_false, Bool.not_false, Bool.not_true, Bool.and_true, Bool.true_and] at g133
              have hbt := HBT.out _ hG
              have ky := hbt.1.cell
              have kw := hbt.2.cell
              go_simp
              exact hK _ _ rfl hG (Below.refl _ _)
            · refine StepAt.guarded 15 132 false _ rfl rfl rfl (by decide) (by kernel_rfl) (true) (by intro w v h; (have h : v = gv (true) (.bool false) := h); rw [h]; (simp [gv, undef])) (by intro h w; show undef = gv (true) _; rw [h]; rfl) ?_
              intro hc f w' hG hfr hp Kx hK
              have g8 : f 8 = .int .i64 now := hfr 8 (by kernel_rfl)
              clear hfr hp
              go_simp
              exact hK _ _ rfl hG (Below.refl _ _)
            · refine StepAt.guarded 15 132 false _ rfl rfl rfl (by decide) (by kernel_rfl) (true) (by intro w v h; (have h : v = gv (true) (.bool false) := h); rw [h]; (simp [gv, undef])) (by intro h w; show undef = gv (true) _; rw [h]; rfl) ?_
              intro hc f w' hG hfr hp Kx hK
              have g134 : f 134 = gv (true) (.int .i64 (now + d)) := hp 17 _ 134 rfl rfl (by kernel_rfl)
              have g135 : f 135 = gv (true) (.int .i64 now) := hp 18 _ 135 rfl rfl (by kernel_rfl)
              clear hfr hp
              simp only [gv_true, gv_false, Bool.not_false, Bool.not_true, Bool.and_true, Bool.true_and] at g134 g135
              have hwr : IntKind.i64.wrap (now + d - now) = now + d - now := IntWalk.i64_in _ (by omega)
              go_simp
              exact hK _ _ rfl hG (Below.refl _ _)
            · refine StepAt.guarded 15 132 false _ rfl rfl rfl (by decide) (by kernel_rfl) (true) (by intro w v h; (have h : v = gv (true) (.bool false) := h); rw [h]; (simp [gv, undef])) (by intro h w; show undef = gv (true) _; rw [h]; rfl) ?_
              intro hc f w' hG hfr hp Kx hK
              have g9 : f 9 = .pointer (some ⟨w5.heap.size, 0, none⟩) := hfr 9 (by kernel_rfl)
              clear hfr hp
              go_simp
              exact hK _ _ rfl hG (Below.refl _ _)
            · refine StepAt.guarded 15 132 false _ rfl rfl rfl (by decide) (by kernel_rfl) (true) (by intro w v h; (have h : v = gv (true) (.bool false) := h); rw [h]; (simp [gv, undef])) (by intro h w; show undef = gv (true) _; rw [h]; rfl) ?_
              intro hc f w' hG hfr hp Kx hK
              have g137 : f 137 = gv (true) (.pointer (some ⟨w5.heap.size, 3, none⟩)) := hp 20 _ 137 rfl rfl (by kernel_rfl)
              clear hfr hp
              simp only [gv_true, gv_false, Bool.not_false, Bool.not_true, Bool.and_true, Bool.true_and] at g137
              have hbt := HBT.out _ hG
              have ky := hbt.1.cell
              have kw := hbt.2.cell
              go_simp
              exact hK _ _ rfl hG (Below.refl _ _)
            · refine StepAt.guarded 15 132 false _ rfl rfl rfl (by decide) (by kernel_rfl) (true) (by intro w v h; (have h : v = gv (true) (.bool false) := h); rw [h]; (simp [gv, undef])) (by intro h w; show undef = gv (true) _; rw [h]; rfl) ?_
              intro hc f w' hG hfr hp Kx hK
              have g138 : f 138 = gv (true) (.int .i64 (m.retry + 1)) := hp 21 _ 138 rfl rfl (by kernel_rfl)
              clear hfr hp
              simp only [gv_true, gv_false, Bool.not_false, Bool.not_true, Bool.and_true, Bool.true_and] at g138
              go_simp
              refine (delay_any (m.retry + 1) d _ HD.out).mono ?_
              rintro e w2 ⟨rfl, rfl⟩
              exact hK _ _ rfl hG (Below.refl _ _)
            · refine StepAt.guarded 15 132 false _ rfl rfl rfl (by decide) (by kernel_rfl) (true) (by intro w v h; (have h : v = gv (true) (.bool false) := h); rw [h]; (simp [gv, undef])) (by intro h w; show undef = gv (true) _; rw [h]; rfl) ?_
              intro hc f w' hG hfr hp Kx hK
              have g136 : f 136 = gv (true) (.int .i64 (now + d - now)) := hp 19 _ 136 rfl rfl (by kernel_rfl)
              have g139 : f 139 = gv (true) (.int .i64 d) := hp 22 _ 139 rfl rfl (by kernel_rfl)
              clear hfr hp
              simp only [gv_true, gv_false, Bool.not_false, Bool.not_true, Bool.and_true, Bool.true_and] at g136 g139
              go_simp
              exact hK _ _ rfl hG (Below.refl _ _)
            · refine StepAt.guarded 11 128 true _ rfl rfl rfl (by decide) (by kernel_rfl) (true) (by intro w v h; (have h : v = .bool true := h); rw [h]; (simp [gv, undef])) (by intro h w; show undef = gv (true) _; rw [h]; rfl) ?_
              intro hc f w' hG hfr hp Kx hK
              have g132 : f 132 = gv (true) (.bool false) := hp 15 _ 132 rfl rfl (by kernel_rfl)
              have g140 : f 140 = gv (true) (.bool (now + d - now == d)) := hp 23 _ 140 rfl rfl (by kernel_rfl)
              clear hfr hp
              simp only [gv_true, gv_false, Bool.not_false, Bool.not_true, Bool.and_true, Bool.true_and] at g132 g140
              go_simp
              exact hK _ _ rfl hG (Below.refl _ _)
            · refine StepAt.plain rfl ?_
              intro f w' hG hfr hp Kx hK
              have g128 : f 128 = .bool true := hp 11 _ 128 rfl rfl (by kernel_rfl)
              have g141 : f 141 = gv (true) (.bool (now + d - now == d)) := hp 24 _ 141 rfl rfl (by kernel_rfl)
              clear hfr hp
              simp only [gv_true, gv_false] at g141
              go_simp
              exact hK _ _ rfl hG (Below.refl _ _)
            · refine StepAt.plain rfl ?_
              intro f w' hG hfr hp Kx hK
              have g142 : f 142 = .bool (now + d - now == d) := hp 25 _ 142 rfl rfl (by kernel_rfl)
              clear hfr hp
              go_simp
              exact hK _ _ rfl hG (Below.refl _ _)
          · intro f w' hG hfr hR
            have g6 : f 6 = .bool (now + d - now == d) := hR 26 _ 6 rfl rfl
            have HBE := Lib.hid hG
            clear hfr hR hG
            rw [show (now + d - now == d) = true from by rw [beq_iff_eq]; omega] at g6
            go_wp2_with fail
            go_ret
            refine ⟨?_, HLC9.out.trans (HBE.out.mono HLC9.out.size)⟩
            show Ending.returned ((Fr 143 f).tmps.getD 6 undef) = _
            rw [fr_get (by decide), g6]
end Go.Proofs.Ytmekmcgdjlmmcaa

