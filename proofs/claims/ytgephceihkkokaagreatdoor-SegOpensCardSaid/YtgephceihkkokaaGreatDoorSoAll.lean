/-
  SoA, SoP, SoO, SoR, SoC, SoW, in one text.
-/
import Derived.Test.YtgephceihkkokaaGreatDoorSOpsD
import Derived.Test.YtgephceihkkokaaGreatDoorInvG
import Derived.Test.YtgephceihkkokaaGreatDoorSAwake
import Derived.Test.YtgephceihkkokaaGreatDoorSRowsP
import Derived.Carry
import Derived.Deep.DeepCutAuto
import Derived.Deep.CutBlock
/-! ### SoA -/
namespace Go.Proofs.YtgephceihkkokaaGreatDoor
open Go.RowKit Go.Deep
set_option linter.unusedVariables false
set_option linter.unusedSimpArgs false
attribute [local go_sem] fr_opt

set_option maxRecDepth 100000 in
theorem fr_lit180 (f : Nat → Value) : Fr 180 f = ⟨#[f 0, f 1, f 2, f 3, f 4, f 5, f 6, f 7, f 8, f 9, f 10, f 11, f 12, f 13, f 14, f 15, f 16, f 17, f 18, f 19, f 20, f 21, f 22, f 23, f 24, f 25, f 26, f 27, f 28, f 29, f 30, f 31, f 32, f 33, f 34, f 35, f 36, f 37, f 38, f 39, f 40, f 41, f 42, f 43, f 44, f 45, f 46, f 47, f 48, f 49, f 50, f 51, f 52, f 53, f 54, f 55, f 56, f 57, f 58, f 59, f 60, f 61, f 62, f 63, f 64, f 65, f 66, f 67, f 68, f 69, f 70, f 71, f 72, f 73, f 74, f 75, f 76, f 77, f 78, f 79, f 80, f 81, f 82, f 83, f 84, f 85, f 86, f 87, f 88, f 89, f 90, f 91, f 92, f 93, f 94, f 95, f 96, f 97, f 98, f 99, f 100, f 101, f 102, f 103, f 104, f 105, f 106, f 107, f 108, f 109, f 110, f 111, f 112, f 113, f 114, f 115, f 116, f 117, f 118, f 119, f 120, f 121, f 122, f 123, f 124, f 125, f 126, f 127, f 128, f 129, f 130, f 131, f 132, f 133, f 134, f 135, f 136, f 137, f 138, f 139, f 140, f 141, f 142, f 143, f 144, f 145, f 146, f 147, f 148, f 149, f 150, f 151, f 152, f 153, f 154, f 155, f 156, f 157, f 158, f 159, f 160, f 161, f 162, f 163, f 164, f 165, f 166, f 167, f 168, f 169, f 170, f 171, f 172, f 173, f 174, f 175, f 176, f 177, f 178, f 179], []⟩ := rfl
theorem lit_fr180 (l : List Value) (h : l.length = 180) : (⟨l.toArray, []⟩ : Act) = Fr 180 (fun t => l.getD t undef) := by
  unfold Fr
  congr 2
  apply List.ext_getElem
  · simp [h]
  · intro i h1 h2
    simp [h1]
/-- Parts of a function's text. -/
def findBk (n : Nat) : Code → Option Code
  | .block m c => if m = n then some (.block m c) else findBk n c
  | .seq a b => match findBk n a with
    | some c => some c
    | none => findBk n b
  | .loop c => findBk n c
  | .scope c => findBk n c
  | _ => none
noncomputable def soC (n : Nat) : Code := (Tryz.f4.body.bind (findBk n)).getD .skip
theorem cut_fr180 {P : Program} {s : Code} {K : Act → World → Prop} {Q' : Exit → Act → World → Prop} {l : List Value} {w : World} (R : (Nat → Value) → Act → World → Prop) (hl : l.length = 180)
    (rest : ∀ f, (∀ t, f t = l.getD t undef) → ∀ a' w', R f a' w' → K a' w') (first : ∀ f, (∀ t, f t = l.getD t undef) → ∀ (J : Act → World → Prop), (∀ a' w', R f a' w' → J a' w') → s.wp P (Exit.then J Q') (Fr 180 f) w) : s.wp P (Exit.then K Q') ⟨l.toArray, []⟩ w := by
  rw [lit_fr180 l hl]
  exact first _ (fun _ => rfl) K (fun a' w' h => rest _ (fun _ => rfl) a' w' h)
theorem wf_nat (n : Nat) (h : n ≤ 9223372036854775807) : (Lit.int .i64 (n : Int)).wf = true := by
  have h1 : IntKind.i64.min ≤ (n : Int) ∧ (n : Int) ≤ IntKind.i64.max := by
    rw [show IntKind.i64.min = (-9223372036854775808 : Int) from by decide, show IntKind.i64.max = (9223372036854775807 : Int) from by decide]
    omega
  simpa [Lit.wf] using h1
theorem u8_in {n : Int} (h : (Lit.int .u8 n).wf = true) : 0 ≤ n ∧ n ≤ 255 := by
  have h2 : IntKind.u8.min ≤ n ∧ n ≤ IntKind.u8.max := by simpa [Lit.wf] using h
  rw [show IntKind.u8.min = (0 : Int) from by decide, show IntKind.u8.max = (255 : Int) from by decide] at h2
  exact h2
theorem ints_new {k : IntKind} {w w' : World} {v : Value} {zs : List Int} (h : IntsOf k w v zs) (hc : Chg (fun _ => False) w w') : IntsOf k w' v zs := by
  obtain ⟨a, cap, e, h⟩ := h
  refine ⟨a, cap, e, ?_⟩
  rcases h with h | ⟨b, o, ha, h⟩
  · exact .inl h
  · exact .inr ⟨b, o, ha, fun i hi => hc.cell (h i hi) (fun x => x)⟩
theorem strs_new0 {w w' : World} {v : Value} {ts : List ByteArray} (h : Strs w 0 v ts) (hc : Chg (fun _ => False) w w') : Strs w' 0 v ts := by
  obtain ⟨a, cap, e, h⟩ := h
  refine ⟨a, cap, e, ?_⟩
  rcases h with h | ⟨b, o, ha, hb, h⟩
  · exact .inl h
  · exact .inr ⟨b, o, ha, hb, fun i hi => hc.cell (h i hi) (fun x => x)⟩
section
variable {w : World} {ops : Array Oper} {rest : List Oper} {o : Oper} {a : Act} {Q : Exit → Act → World → Prop}
theorem wpList_store_ii (hg : o.guard = none) (m x v : Operand) (hop : o.op = Op.mapUpdate 49 m x v) (mm : Nat) (M : List (Int × Int)) (p l : Int)
    (hm : a.eval m = .map (some mm)) (hx : a.eval x = .int .i64 p) (hv : a.eval v = .int .i64 l) (h : MapK inK intEl w mm M) (hp : (Lit.int .i64 p).wf = true) (hn : M.length < maxLen)
    (hK : ∀ w', MapK inK intEl w' mm (dropK M p ++ [(p, l)]) → w.grownBy w' (some mm) → w'.heap.size = w.heap.size → wpList Tryz.prog ops Q rest (a.put o.dst undef) w') : wpList Tryz.prog ops Q (o :: rest) a w := by
  refine wpList_plain hg fun K' hK' => ?_
  obtain ⟨w', hrun, r1, r2, r3⟩ := h.store (t := 49) (e := 3) Tryz.underlying49 p hp l hn
  have hrun : (Instr.mapUpdate 49 (.map (some mm)) (.int .i64 p) (.int .i64 l)).run Tryz.prog w = .ok () w' := hrun
  unfold Oper.wp
  simp [execOp, hop, hm, hx, hv, hrun, Result.andThen]
  exact hK' _ _ (hK w' r1 r2 r3)
theorem wpList_range_ii (hg : o.guard = none) (m : Operand) (hop : o.op = Op.range 49 m) (mm : Nat) (M : List (Int × Int))
    (hm : a.eval m = .map (some mm)) (h : MapK inK intEl w mm M)
    (hK : ∀ w' cnt, RangeK inK intEl w' mm w.heap.size M [] M cnt → w.grownBy w' none → w'.heap.size = w.heap.size + 1 → wpList Tryz.prog ops Q rest (a.put o.dst (.pointer (some ⟨w.heap.size, 0, none⟩))) w') : wpList Tryz.prog ops Q (o :: rest) a w := by
  refine wpList_plain hg fun K' hK' => ?_
  obtain ⟨w', cnt, hrun, r1, r2, r3⟩ := h.range (t := 49) (e := 3) Tryz.underlying49
  unfold Oper.wp
  simp [execOp, hop, hm, hrun, Result.andThen]
  exact hK' _ _ (hK w' cnt r1 r2 r3)
theorem wpList_next_ii (hg : o.guard = none) (it : Operand) (hop : o.op = Op.next it false) (mm r : Nat) (M vis rem : List (Int × Int)) (cnt : Nat)
    (hit : a.eval it = .pointer (some ⟨r, 0, none⟩)) (h : RangeK inK intEl w mm r M vis rem cnt)
    (hDone : rem = [] → wpList Tryz.prog ops Q rest (a.put o.dst (.tuple #[.bool false])) w)
    (hMore : ∀ (p l : Int) r1 r2 w' cnt', rem = r1 ++ (p, l) :: r2 → (p, l) ∈ M → RangeK inK intEl w' mm r M (vis ++ [(p, l)]) (r1 ++ r2) cnt' → cnt' < cnt → w.grownBy w' (some r) → w'.heap.size = w.heap.size →
      (Instr.entry (.pointer (some ⟨r, 0, none⟩))).run Tryz.prog w' = .ok (.tuple #[.int .i64 p, .int .i64 l]) w' → wpList Tryz.prog ops Q rest (a.put o.dst (.tuple #[.bool true, .int .i64 p, .int .i64 l])) w') : wpList Tryz.prog ops Q (o :: rest) a w := by
  refine wpList_plain hg fun K' hK' => ?_
  unfold Oper.wp
  rcases h.next o.type with ⟨h0, hrun⟩ | ⟨p, l, r1, r2, w', cnt', hr, hm, hrun, hri, hlt, hgr, hsz, hen⟩
  · simp [execOp, hop, hit, hrun, Result.andThen]
    exact hK' _ _ (hDone h0)
  · have hrun : (Instr.next (.pointer (some ⟨r, 0, none⟩)) false o.type).run Tryz.prog w = .ok (.tuple #[.bool true, .int .i64 p, .int .i64 l]) w' := hrun
    simp [execOp, hop, hit, hrun, Result.andThen]
    exact hK' _ _ (hMore p l r1 r2 w' cnt' hr hm hri hlt hgr hsz hen)
end
/-- What is written to the law's map leaves the disk. -/
theorem OpI.put {w0 w w' : World} {d mb : Nat} {g : Gh} {st : St} {M M' : List (Int × Int)} {n k : Nat} (h : OpI w0 w d mb g st M n k) (hm : MapK inK intEl w' mb M') (hg : w.grownBy w' (some mb)) (hl : M'.length ≤ k) : OpI w0 w' d mb g st M' n k := by
  have hc : Chg (fun q => q = mb) w w' := Chg.of_grown hg (fun q hq _ => by cases hq; rfl)
  refine ⟨⟨h.disk.disk.chg hc (fun q hq hx => h.out (hx ▸ hq)), h.disk.d, h.disk.chg.trans hc (fun q hq hx => ?_), h.disk.low⟩, h.calm, h.cap, h.size, h.nm, hm, h.out, h.low, hl⟩
  subst hx
  exact absurd hq (Nat.not_lt.2 h.low)
/-- Files laid. -/
def Laid (w0 w : World) (d mb n k : Nat) : Prop := ∃ g st M, OpI w0 w d mb g st M n k ∧ HasRel st hH M
theorem Laid.new {w0 w w' : World} {d mb n k : Nat} (h : Laid w0 w d mb n k) (hc : Chg (fun _ => False) w w') : Laid w0 w' d mb n k := by
  obtain ⟨g, st, M, h1, h2⟩ := h
  exact ⟨g, st, M, h1.new hc, h2⟩
theorem Laid.more {w0 w : World} {d mb n n' k k' : Nat} (h : Laid w0 w d mb n k) (hn : n ≤ n') (hk : k ≤ k') : Laid w0 w d mb n' k' := by
  obtain ⟨g, st, M, h1, h2⟩ := h
  exact ⟨g, st, M, h1.more hn hk, h2⟩
theorem Laid.chg {w0 w : World} {d mb n k : Nat} (h : Laid w0 w d mb n k) : Chg (fun _ => False) w0 w := by
  obtain ⟨g, st, M, h1, h2⟩ := h
  exact h1.disk.chg
end Go.Proofs.YtgephceihkkokaaGreatDoor

/-! ### SoP -/
namespace Go.Proofs.YtgephceihkkokaaGreatDoor
open Go.RowKit Go.Deep
set_option linter.unusedVariables false
set_option linter.unusedSimpArgs false
attribute [local go_sem] fr_opt

/-- How long the i-th file is to be. -/
def longOf (ls : List Int) (i : Nat) : Nat := if i < ls.length then (ls.getD i 0).toNat % 20 else 0
theorem longOf_lt (ls : List Int) (i : Nat) : longOf ls i ≤ 20 := by unfold longOf; split <;> omega
/-- The frame behind the first loop. -/
def SoI0 (f : Nat → Value) (w1 : World) (d mb : Nat) (a : Act) (w : World) : Prop := ∃ f', a = Fr 180 f' ∧ f' 2 = f 2 ∧ f' 7 = f 7 ∧ f' 8 = f 8 ∧ Laid w1 w d mb 60 20
def SoL0 (w1 : World) (d mb : Nat) (v1 v2 : Value) (a0 : Option Addr) (n0 c0 : Nat) (a : Act) (w : World) : Prop := ∃ (f : Nat → Value) (k : Nat), a = Fr 180 f ∧ f 1 = v1 ∧ f 2 = v2 ∧ f 7 = .pointer (some ⟨d, 0, none⟩) ∧ f 8 = .map (some mb) ∧ f 41 = .slice a0 n0 c0 ∧ f 42 = .int .i64 (n0 : Int) ∧ f 43 = .int .i64 (k : Int) ∧ k ≤ n0 ∧ Laid w1 w d mb (3 * k) k
def SoM0 (n0 : Nat) (a : Act) (_ : World) : Nat := n0 - (intOf (a.tmps.getD 43 undef)).toNat
set_option maxHeartbeats 8000000 in
set_option maxRecDepth 100000 in
theorem so_places (f : Nat → Value) (w1 w4 : World) (d mb : Nat) (a0 a1 : Option Addr) (n0 c0 n1 c1 : Nat) (ps ls : List Int) (ht : Tab10 w1) (h0 : IntsOf .i64 w1 (.slice a0 n0 c0) ps) (h1 : IntsOf .u8 w1 (.slice a1 n1 c1) ls) (wf0 : ∀ n ∈ ps, (Lit.int .i64 n).wf = true) (wf1 : ∀ n ∈ ls, (Lit.int .u8 n).wf = true) (hn0 : n0 ≤ 20)
    (f1 : f 1 = .slice a1 n1 c1) (f7 : f 7 = .pointer (some ⟨d, 0, none⟩)) (f8 : f 8 = .map (some mb)) (f41 : f 41 = .slice a0 n0 c0) (f42 : f 42 = .int .i64 (n0 : Int)) (f43 : f 43 = .int .i64 0) (hl : Laid w1 w4 d mb 0 0)
    (J : Act → World → Prop) (Q : Exit → Act → World → Prop) (hJ : ∀ a w, SoI0 f w1 d mb a w → J a w) : Code.wp Tryz.prog (soC 0) (Exit.then J Q) (Fr 180 f) w4 := by
  have hps : n0 = ps.length := by obtain ⟨_, _, e, _⟩ := h0; cases e; rfl
  have hls : n1 = ls.length := by obtain ⟨_, _, e, _⟩ := h1; cases e; rfl
  have HT := Lib.hid ht
  have H0 := Lib.hid h0
  have H1 := Lib.hid h1
  have HW0 := Lib.hid wf0
  have HW1 := Lib.hid wf1
  have HPS := Lib.hid hps
  have HLS := Lib.hid hls
  have HJ := Lib.hid hJ
  clear ht h0 h1 wf0 wf1 hps hls hJ
  conv => arg 2; whnf
  refine wp_block ?_
  refine wp_loop (SoL0 w1 d mb (.slice a1 n1 c1) (f 2) a0 n0 c0) (SoM0 n0) ⟨f, 0, rfl, f1, rfl, f7, f8, f41, f42, f43, Nat.zero_le _, hl⟩ ?_
  have HF7 := Lib.hid f7
  have HF8 := Lib.hid f8
  obtain ⟨v2, hv2⟩ : ∃ v2, v2 = f 2 := ⟨_, rfl⟩
  rw [← hv2]
  have HV2 := Lib.hid hv2
  clear f1 f7 f8 f41 f42 f43 hl hv2
  rintro a wr ⟨f9, k, rfl, f1, f2, f7, f8, f41, f42, f43, hk, hl⟩
  have HM : Hid (∀ a' w' (k' : Nat), a'.tmps.getD 43 undef = .int .i64 ((k' : Nat) : Int) → k < k' → k' ≤ n0 → SoM0 n0 a' w' < SoM0 n0 (Fr 180 f9) wr) := Lib.hid fun a' w' k' e1 e2 e3 => by
    have e4 : (Fr 180 f9).tmps.getD 43 undef = .int .i64 (k : Int) := (fr_get (by decide)).trans f43
    unfold SoM0
    rw [e1, e4]
    simp only [intOf, Int.toNat_natCast]
    omega
  obtain ⟨M0, hM0⟩ : ∃ M0, M0 = SoM0 n0 (Fr 180 f9) wr := ⟨_, rfl⟩
  rw [← hM0] at HM ⊢
  clear hM0
  rw [fr_lit180 f9, f1, f2, f7, f8, f41, f42, f43]
  by_cases hlt : k < n0
  case neg =>
    have HL := Lib.hid hl
    have hltI : ¬ ((k : Int) < (n0 : Int)) := by omega
    clear hl
    go_wp2_with fail
    exact HJ.out _ _ ⟨_, lit_fr180 _ rfl, HV2.out, HF7.out.symm, HF8.out.symm, HL.out.more (by omega) (by omega)⟩
  have hltI : (k : Int) < (n0 : Int) := by omega
  obtain ⟨b0, o0, rfl, -, hc0⟩ := (ints_new H0.out hl.chg).cellAt (i := k) (by rw [← HPS.out]; exact hlt)
  obtain ⟨p, hp⟩ : ∃ p, p = ps.getD k 0 := ⟨_, rfl⟩
  have hpw : (Lit.int .i64 p).wf = true := by
    rw [hp, List.getD_eq_getElem?_getD, List.getElem?_eq_getElem (by rw [← HPS.out]; exact hlt)]
    exact HW0.out _ (List.getElem_mem _)
  rw [← hp] at hc0
  have HPW := Lib.hid hpw
  have HL := Lib.hid hl
  have hkk : ((k : Int) + 1) = ((k + 1 : Nat) : Int) := by omega
  have HKK := Lib.hid hkk
  clear hp hpw hkk
  by_cases hin : 0 ≤ p ∧ p ≤ 99999999
  case neg =>
    have HN := Lib.hid (fun W => name_bad hH p W (by omega))
    clear hl hin
    go_wp2_with fail
    refine (HN.out _).mono ?_
    rintro e w5 ⟨rfl, rfl⟩
    go_wp2_with fail
    refine ⟨⟨_, k + 1, lit_fr180 _ rfl, rfl, rfl, rfl, rfl, rfl, rfl, ?_, by omega, HL.out.more (by omega) (by omega)⟩, HM.out _ _ (k + 1) ?_ (by omega) (by omega)⟩
    · show Value.int .i64 _ = _
      go_num
    · show Value.int .i64 _ = _
      go_num
  obtain ⟨u, rfl⟩ : ∃ u : Nat, p = (u : Int) := ⟨p.toNat, by omega⟩
  have hu : u ≤ 99999999 := by omega
  have HN := Lib.hid (name_ok hH u hu (by decide) wr (tab_chg HT.out hl.chg))
  obtain ⟨nm, hnm⟩ : ∃ nm, nm = nameB hH u := ⟨_, rfl⟩
  rw [← hnm] at HN
  have HNM := Lib.hid hnm
  have hns : nm.size ≤ 1000 := by rw [hnm, nameB_size]; decide
  obtain ⟨lg, hlg⟩ : ∃ lg, lg = longOf ls k := ⟨_, rfl⟩
  have hlg20 : lg ≤ 20 := by rw [hlg]; exact longOf_lt ls k
  have HLG := Lib.hid hlg
  obtain ⟨Z, hmk, hcv⟩ := makeZ lg (by omega)
  obtain ⟨zs, hzs⟩ : ∃ zs : ByteArray, zs = ⟨(List.replicate lg 0).toArray⟩ := ⟨_, rfl⟩
  have hzl : zs.size = lg := by rw [hzs]; show (List.replicate lg (0 : UInt8)).toArray.size = lg; simp
  rw [← hzs] at hcv
  have HZL := Lib.hid hzl
  clear hl hin hnm hlg hzs hzl
  go_wp2_with fail
  refine HN.out.mono ?_
  rintro e w5 ⟨rfl, hb5⟩
  have HL5 := Lib.hid (HL.out.new (Chg.of_below hb5))
  clear hb5
  have hll : (k < n1 ∧ ∃ q b1 o1, a1 = some ⟨b1, o1, none⟩ ∧ w5.cell? ⟨b1, o1 + k, none⟩ = some (.int .u8 q) ∧ 0 ≤ q ∧ q ≤ 255 ∧ q.toNat % 20 = lg) ∨ (¬ k < n1 ∧ lg = 0) := by
    by_cases h : k < n1
    · left
      have h' : k < ls.length := by rw [← HLS.out]; exact h
      obtain ⟨b1, o1, e1, -, hc1⟩ := (ints_new H1.out HL5.out.chg).cellAt (i := k) h'
      have hw := HW1.out (ls.getD k 0) (by rw [List.getD_eq_getElem?_getD, List.getElem?_eq_getElem h']; exact List.getElem_mem _)
      have hr := u8_in hw
      exact ⟨h, _, b1, o1, e1, hc1, hr.1, hr.2, by rw [HLG.out]; unfold longOf; rw [if_pos h']⟩
    · right
      exact ⟨h, by rw [HLG.out]; unfold longOf; rw [if_neg (by rw [← HLS.out]; exact h)]⟩
  rcases hll with ⟨hk1, q, b1, o1, rfl, hc1, hq0, hq1, hql⟩ | ⟨hk1, hlz⟩
  · have hk1I : (k : Int) < (n1 : Int) := by omega
    obtain ⟨qn, rfl⟩ : ∃ qn : Nat, q = (qn : Int) := ⟨q.toNat, by omega⟩
    have hql2 : ((qn : Int)).tmod 20 = (lg : Int) := by
      rw [Int.tmod_eq_emod_of_nonneg (by omega)]
      rw [Int.toNat_natCast] at hql
      omega
    have hql3 : (qn : Int) % 20 = (lg : Int) := by
      rw [Int.toNat_natCast] at hql
      omega
    have hql4 : ((qn % 20 : Nat) : Int) = (lg : Int) := by omega
    clear hql
    go_upto_region 15 with fail
    obtain ⟨g, st, M, hop, hrel⟩ := HL5.out
    have HOP := Lib.hid hop
    have HREL := Lib.hid hrel
    have HC := Lib.hid (op_create hop nm hns (by omega))
    clear hop hrel
    go_wp2_with fail
    refine HC.out.mono ?_
    rintro e w6 ⟨c, g6, rfl, hop6, hor⟩
    rcases hor with ⟨rfl, hfn⟩ | ⟨hc0', hfs⟩
    · have hcr := created HOP.out.calm nm
      have hnew := created_new HOP.out.calm hfn
      have hfresh : nm ∉ st.fs.map (·.1) := fun hx => by
        rw [has_find, hfn] at hx
        cases hx
      obtain ⟨st6, hst6⟩ : ∃ st6, st6 = createS st nm := ⟨_, rfl⟩
      rw [← hst6] at hop6 hcr hnew
      have HOP6 := Lib.hid hop6
      have HCR := Lib.hid hcr
      have HNEW := Lib.hid hnew
      have HFR := Lib.hid hfresh
      clear hop6 hcr hnew hfresh hst6 hfn HC
      go_wp2_with fail
      have h7 := HOP6.out.new (Chg.alloc (fun _ => False) (Chg.refl _ _) (.cells Z 5))
      refine (op_write h7 nm hns (by omega) (by omega) zs (by rw [HZL.out]; exact hlg20) HNEW.out rfl rfl).mono ?_
      rintro e w8 ⟨c8, g8, rfl, hop8⟩
      have hwr := wrote HOP6.out.calm zs HNEW.out rfl (by have := HOP6.out.cap; have := HOP6.out.size; rw [HZL.out]; omega)
      obtain ⟨st8, hst8⟩ : ∃ st8, st8 = writeS st6 nm 0 zs := ⟨_, rfl⟩
      rw [← hst8] at hop8 hwr
      have HOP8 := Lib.hid hop8
      have HWR := Lib.hid hwr
      clear h7 hop8 hwr hst8
      have hml : M.length < maxLen := by have := HOP8.out.len; unfold maxLen; omega
      go_wp2_with (with_reducible refine wpList_store_ii rfl (.tmp 75) (.tmp 76) (.tmp 77) rfl mb M (u : Int) (lg : Int) rfl rfl rfl ?c1 HPW.out hml ?c2)
      case c1 => exact HOP8.out.map
      case c2 =>
        intro w9 hm9 hg9 hs9
        have hput := has_put (p := u) (l := lg) HREL.out hu (by rw [← HNM.out]; exact HFR.out) (fun t => by rw [HWR.out.names]; rw [← HNM.out]; exact HCR.out.1 t) (by rw [← HNM.out, HWR.out.len, HZL.out]) (fun t ht => by rw [HWR.out.others t (by rw [HNM.out]; exact ht), HCR.out.2 t (by rw [HNM.out]; exact ht)])
        have hdl : (dropK M (u : Int)).length ≤ M.length := List.length_filter_le _ _
        have hop9 := HOP8.out.put hm9 hg9 (by rw [List.length_append, List.length_singleton]; have := HOP.out.len; omega)
        have HL9 := Lib.hid (show Laid w1 w9 d mb (3 * k + 3) (k + 1) from ⟨_, _, _, hop9.more (by omega) (by omega), hput⟩)
        clear hm9 hg9 hs9 hput hop9
        go_wp2_with fail
        refine ⟨⟨_, k + 1, lit_fr180 _ rfl, rfl, rfl, rfl, rfl, rfl, rfl, ?_, by omega, HL9.out.more (by omega) (by omega)⟩, HM.out _ _ (k + 1) ?_ (by omega) (by omega)⟩
        · show Value.int .i64 _ = _
          go_num
        · show Value.int .i64 _ = _
          go_num
    · rw [(createS_there HOP.out.calm hfs).1] at hop6
      have HL9 := Lib.hid (show Laid w1 w6 d mb (3 * k + 1) k from ⟨_, _, _, hop6, HREL.out⟩)
      clear hop6 hfs HC
      go_wp2_with fail
      refine ⟨⟨_, k + 1, lit_fr180 _ rfl, rfl, rfl, rfl, rfl, rfl, rfl, ?_, by omega, HL9.out.more (by omega) (by omega)⟩, HM.out _ _ (k + 1) ?_ (by omega) (by omega)⟩
      · show Value.int .i64 _ = _
        go_num
      · show Value.int .i64 _ = _
        go_num
  · have hk1I : ¬ ((k : Int) < (n1 : Int)) := by omega
    subst hlz
    have hmk : ∀ W : World, (Instr.makeSlice 48 (.int .i64 0) (.int .i64 0)).run Tryz.prog W = .ok (.slice (some ⟨W.heap.size, 0, none⟩) 0 0) (W.alloc (.cells Z 5)) := hmk
    go_upto_region 15 with fail
    obtain ⟨g, st, M, hop, hrel⟩ := HL5.out
    have HOP := Lib.hid hop
    have HREL := Lib.hid hrel
    have HC := Lib.hid (op_create hop nm hns (by omega))
    clear hop hrel
    go_wp2_with fail
    refine HC.out.mono ?_
    rintro e w6 ⟨c, g6, rfl, hop6, hor⟩
    rcases hor with ⟨rfl, hfn⟩ | ⟨hc0', hfs⟩
    · have hcr := created HOP.out.calm nm
      have hnew := created_new HOP.out.calm hfn
      have hfresh : nm ∉ st.fs.map (·.1) := fun hx => by
        rw [has_find, hfn] at hx
        cases hx
      obtain ⟨st6, hst6⟩ : ∃ st6, st6 = createS st nm := ⟨_, rfl⟩
      rw [← hst6] at hop6 hcr hnew
      have HOP6 := Lib.hid hop6
      have HCR := Lib.hid hcr
      have HNEW := Lib.hid hnew
      have HFR := Lib.hid hfresh
      clear hop6 hcr hnew hfresh hst6 hfn HC
      go_wp2_with fail
      have h7 := HOP6.out.new (Chg.alloc (fun _ => False) (Chg.refl _ _) (.cells Z 5))
      refine (op_write h7 nm hns (by omega) (by omega) zs (by rw [HZL.out]; exact hlg20) HNEW.out rfl rfl).mono ?_
      rintro e w8 ⟨c8, g8, rfl, hop8⟩
      have hwr := wrote HOP6.out.calm zs HNEW.out rfl (by have := HOP6.out.cap; have := HOP6.out.size; rw [HZL.out]; omega)
      obtain ⟨st8, hst8⟩ : ∃ st8, st8 = writeS st6 nm 0 zs := ⟨_, rfl⟩
      rw [← hst8] at hop8 hwr
      have HOP8 := Lib.hid hop8
      have HWR := Lib.hid hwr
      clear h7 hop8 hwr hst8
      have hml : M.length < maxLen := by have := HOP8.out.len; unfold maxLen; omega
      go_wp2_with (with_reducible refine wpList_store_ii rfl (.tmp 75) (.tmp 76) (.tmp 77) rfl mb M (u : Int) 0 rfl rfl rfl ?c1 HPW.out hml ?c2)
      case c1 => exact HOP8.out.map
      case c2 =>
        intro w9 hm9 hg9 hs9
        have hput := has_put (p := u) (l := 0) HREL.out hu (by rw [← HNM.out]; exact HFR.out) (fun t => by rw [HWR.out.names]; rw [← HNM.out]; exact HCR.out.1 t) (by rw [← HNM.out, HWR.out.len, HZL.out]) (fun t ht => by rw [HWR.out.others t (by rw [HNM.out]; exact ht), HCR.out.2 t (by rw [HNM.out]; exact ht)])
        have hdl : (dropK M (u : Int)).length ≤ M.length := List.length_filter_le _ _
        have hop9 := HOP8.out.put hm9 hg9 (by rw [List.length_append, List.length_singleton]; have := HOP.out.len; omega)
        have HL9 := Lib.hid (show Laid w1 w9 d mb (3 * k + 3) (k + 1) from ⟨_, _, _, hop9.more (by omega) (by omega), hput⟩)
        clear hm9 hg9 hs9 hput hop9
        go_wp2_with fail
        refine ⟨⟨_, k + 1, lit_fr180 _ rfl, rfl, rfl, rfl, rfl, rfl, rfl, ?_, by omega, HL9.out.more (by omega) (by omega)⟩, HM.out _ _ (k + 1) ?_ (by omega) (by omega)⟩
        · show Value.int .i64 _ = _
          go_num
        · show Value.int .i64 _ = _
          go_num
    · rw [(createS_there HOP.out.calm hfs).1] at hop6
      have HL9 := Lib.hid (show Laid w1 w6 d mb (3 * k + 1) k from ⟨_, _, _, hop6, HREL.out⟩)
      clear hop6 hfs HC
      go_wp2_with fail
      refine ⟨⟨_, k + 1, lit_fr180 _ rfl, rfl, rfl, rfl, rfl, rfl, rfl, ?_, by omega, HL9.out.more (by omega) (by omega)⟩, HM.out _ _ (k + 1) ?_ (by omega) (by omega)⟩
      · show Value.int .i64 _ = _
        go_num
      · show Value.int .i64 _ = _
        go_num
end Go.Proofs.YtgephceihkkokaaGreatDoor

/-! ### SoO -/
namespace Go.Proofs.YtgephceihkkokaaGreatDoor
open Go.RowKit Go.Deep
set_option linter.unusedVariables false
set_option linter.unusedSimpArgs false
attribute [local go_sem] fr_opt

/-- The frame behind the second loop. -/
def SoI1 (f : Nat → Value) (w1 : World) (d mb : Nat) (a : Act) (w : World) : Prop := ∃ f', a = Fr 180 f' ∧ f' 7 = f 7 ∧ f' 8 = f 8 ∧ Laid w1 w d mb 80 20
def SoL1 (w1 : World) (d mb : Nat) (a2 : Option Addr) (n2 c2 : Nat) (a : Act) (w : World) : Prop := ∃ (f : Nat → Value) (k : Nat), a = Fr 180 f ∧ f 7 = .pointer (some ⟨d, 0, none⟩) ∧ f 8 = .map (some mb) ∧ f 79 = .slice a2 n2 c2 ∧ f 80 = .int .i64 (n2 : Int) ∧ f 81 = .int .i64 (k : Int) ∧ k ≤ n2 ∧ Laid w1 w d mb (60 + k) 20
def SoM1 (n2 : Nat) (a : Act) (_ : World) : Nat := n2 - (intOf (a.tmps.getD 81 undef)).toNat
set_option maxHeartbeats 8000000 in
set_option maxRecDepth 100000 in
theorem so_others (f : Nat → Value) (w1 w4 : World) (d mb : Nat) (a2 : Option Addr) (n2 c2 : Nat) (ts : List ByteArray) (h2 : Strs w1 0 (.slice a2 n2 c2) ts) (hn2 : n2 ≤ 20)
    (f7 : f 7 = .pointer (some ⟨d, 0, none⟩)) (f8 : f 8 = .map (some mb)) (f79 : f 79 = .slice a2 n2 c2) (f80 : f 80 = .int .i64 (n2 : Int)) (f81 : f 81 = .int .i64 0) (hl : Laid w1 w4 d mb 60 20)
    (J : Act → World → Prop) (Q : Exit → Act → World → Prop) (hJ : ∀ a w, SoI1 f w1 d mb a w → J a w) (hR : ∀ f' w', f' 6 = .bool true → Chg (fun _ => False) w1 w' → Q .ret (Fr 180 f') w') : Code.wp Tryz.prog (soC 2) (Exit.then J Q) (Fr 180 f) w4 := by
  have hts : n2 = ts.length := by obtain ⟨_, _, e, _⟩ := h2; cases e; rfl
  have H2 := Lib.hid h2
  have HTS := Lib.hid hts
  have HJ := Lib.hid hJ
  have HR := Lib.hid hR
  have HF7 := Lib.hid f7
  have HF8 := Lib.hid f8
  clear h2 hts hJ hR
  conv => arg 2; whnf
  refine wp_block ?_
  refine wp_loop (SoL1 w1 d mb a2 n2 c2) (SoM1 n2) ⟨f, 0, rfl, f7, f8, f79, f80, f81, Nat.zero_le _, hl⟩ ?_
  clear f7 f8 f79 f80 f81 hl
  rintro a wr ⟨f9, k, rfl, f7, f8, f79, f80, f81, hk, hl⟩
  have HM : Hid (∀ a' w' (k' : Nat), a'.tmps.getD 81 undef = .int .i64 ((k' : Nat) : Int) → k < k' → k' ≤ n2 → SoM1 n2 a' w' < SoM1 n2 (Fr 180 f9) wr) := Lib.hid fun a' w' k' e1 e2 e3 => by
    have e4 : (Fr 180 f9).tmps.getD 81 undef = .int .i64 (k : Int) := (fr_get (by decide)).trans f81
    unfold SoM1
    rw [e1, e4]
    simp only [intOf, Int.toNat_natCast]
    omega
  obtain ⟨M0, hM0⟩ : ∃ M0, M0 = SoM1 n2 (Fr 180 f9) wr := ⟨_, rfl⟩
  rw [← hM0] at HM ⊢
  clear hM0
  rw [fr_lit180 f9, f7, f8, f79, f80, f81]
  by_cases hlt : k < n2
  case neg =>
    have HL := Lib.hid hl
    have hltI : ¬ ((k : Int) < (n2 : Int)) := by omega
    clear hl
    go_wp2_with fail
    exact HJ.out _ _ ⟨_, lit_fr180 _ rfl, HF7.out.symm, HF8.out.symm, HL.out.more (by omega) (by omega)⟩
  have hltI : (k : Int) < (n2 : Int) := by omega
  obtain ⟨b2, o2, s, rfl, hc2⟩ : ∃ b o s, a2 = some ⟨b, o, none⟩ ∧ wr.cell? ⟨b, o + k, none⟩ = some (.string s) := by
    obtain ⟨a', cap', e, h⟩ := strs_new0 H2.out hl.chg
    cases e
    rcases h with h | ⟨b, o, rfl, _, h⟩
    · have h9 : k < ts.length := hlt
      rw [h] at h9
      cases h9
    · exact ⟨b, o, _, rfl, h k hlt⟩
  have HL := Lib.hid hl
  clear hl
  by_cases hlong : 30 < s.size
  · go_wp2_with fail
    rw [lit_fr180 _ rfl]
    exact HR.out _ _ rfl HL.out.chg
  have hs30 : s.size ≤ 30 := by omega
  have hPL : Calls Tryz.prog 27 #[.string hH, .string s] wr (PlaceTo hH s wr) := place_any hH s wr (by omega)
  unfold PlaceTo at hPL
  cases hp : placeB hH s with
  | some v =>
    rw [hp] at hPL
    simp only [Option.getD_some, Option.isSome_some] at hPL
    have HPL := Lib.hid hPL
    clear hPL hp
    go_wp2_with fail
    refine HPL.out.mono ?_
    rintro e w5 ⟨rfl, hb5⟩
    have HL5 := Lib.hid (HL.out.new (Chg.of_below hb5))
    clear hb5
    go_wp2_with fail
    refine ⟨⟨_, k + 1, lit_fr180 _ rfl, rfl, rfl, rfl, rfl, ?_, by omega, HL5.out.more (by omega) (by omega)⟩, HM.out _ _ (k + 1) ?_ (by omega) (by omega)⟩
    · show Value.int .i64 _ = _
      go_num
    · show Value.int .i64 _ = _
      go_num
  | none =>
    rw [hp] at hPL
    simp only [Option.getD_none, Option.isSome_none] at hPL
    have HPL := Lib.hid hPL
    have HNO := Lib.hid hp
    clear hPL hp
    go_wp2_with fail
    refine HPL.out.mono ?_
    rintro e w5 ⟨rfl, hb5⟩
    obtain ⟨g, st, M, hop, hrel⟩ := HL.out.new (Chg.of_below hb5)
    have HOP := Lib.hid hop
    have HREL := Lib.hid hrel
    have HC := Lib.hid (op_create hop s (by omega) (by omega))
    clear hop hrel hb5
    go_wp2_with fail
    refine HC.out.mono ?_
    rintro e w6 ⟨c, g6, rfl, hop6, _⟩
    have hcr := created HOP.out.calm s
    have HL6 := Lib.hid (show Laid w1 w6 d mb (60 + k + 1) 20 from ⟨_, _, _, hop6, has_other HREL.out HNO.out hcr.1 hcr.2⟩)
    clear hop6 hcr HC
    go_wp2_with fail
    refine ⟨⟨_, k + 1, lit_fr180 _ rfl, rfl, rfl, rfl, rfl, ?_, by omega, HL6.out.more (by omega) (by omega)⟩, HM.out _ _ (k + 1) ?_ (by omega) (by omega)⟩
    · show Value.int .i64 _ = _
      go_num
    · show Value.int .i64 _ = _
      go_num
end Go.Proofs.YtgephceihkkokaaGreatDoor

/-! ### SoR -/
namespace Go.Proofs.YtgephceihkkokaaGreatDoor
open Go.RowKit Go.Deep
set_option linter.unusedVariables false
set_option linter.unusedSimpArgs false
attribute [local go_sem] fr_opt

/-- The frame behind the third loop. -/
def SoI2 (f : Nat → Value) (mb : Nat) (M : List (Int × Int)) (w4 : World) (a : Act) (w : World) : Prop := ∃ (f' : Nat → Value) (bg : Int), a = Fr 180 f' ∧ f' 7 = f 7 ∧ f' 8 = f 8 ∧ f' 18 = f 18 ∧ f' 19 = f 19 ∧ f' 21 = .int .i64 bg ∧ (bg = -1 ∨ ∃ l, (bg, l) ∈ M) ∧ bestOf M bg ∧ MapK inK intEl w mb M ∧ Chg (fun q => w4.heap.size ≤ q + 1) w4 w
def SoL2 (mb rb : Nat) (M : List (Int × Int)) (w4 : World) (v7 v18 v19 : Value) (a : Act) (w : World) : Prop := ∃ (f : Nat → Value) (vis rem : List (Int × Int)) (cnt : Nat) (bg : Int), a = Fr 180 f ∧ f 7 = v7 ∧ f 8 = .map (some mb) ∧ f 18 = v18 ∧ f 19 = v19 ∧ f 21 = .int .i64 bg ∧ f 110 = .pointer (some ⟨rb, 0, none⟩) ∧ RangeK inK intEl w mb rb M vis rem cnt ∧ (bg = -1 ∨ ∃ l, (bg, l) ∈ M) ∧ bestOf vis bg ∧ Chg (fun q => q = rb) w4 w
theorem best_none {vis : List (Int × Int)} {bg p l : Int} (h : bestOf vis bg) (hn : ¬ (p % 16 = 0 ∧ l ≤ 16)) : bestOf (vis ++ [(p, l)]) bg := by
  rcases h with ⟨h1, h2⟩ | ⟨h1, ⟨n, h2, h3, h4⟩, h5⟩
  · refine .inl ⟨h1, fun x hx => ?_⟩
    rcases List.mem_append.1 hx with hx | hx
    · exact h2 x hx
    · rw [List.mem_singleton] at hx; subst hx; exact hn
  · refine .inr ⟨h1, ⟨n, List.mem_append_left _ h2, h3, h4⟩, fun x hx a b => ?_⟩
    rcases List.mem_append.1 hx with hx | hx
    · exact h5 x hx a b
    · rw [List.mem_singleton] at hx; subst hx; exact absurd ⟨a, b⟩ hn
theorem best_keep {vis : List (Int × Int)} {bg p l : Int} (h : bestOf vis bg) (h0 : 0 ≤ bg) (hp : bg ≤ p) : bestOf (vis ++ [(p, l)]) bg := by
  rcases h with ⟨h1, h2⟩ | ⟨h1, ⟨n, h2, h3, h4⟩, h5⟩
  · omega
  · refine .inr ⟨h1, ⟨n, List.mem_append_left _ h2, h3, h4⟩, fun x hx a b => ?_⟩
    rcases List.mem_append.1 hx with hx | hx
    · exact h5 x hx a b
    · rw [List.mem_singleton] at hx; subst hx; exact hp
theorem best_take {vis : List (Int × Int)} {bg p l : Int} (h : bestOf vis bg) (hp0 : 0 ≤ p) (hq : p % 16 = 0 ∧ l ≤ 16) (hlt : bg < 0 ∨ p < bg) : bestOf (vis ++ [(p, l)]) p := by
  refine .inr ⟨hp0, ⟨l, List.mem_append_right _ (List.mem_singleton.2 rfl), hq.1, hq.2⟩, fun x hx a b => ?_⟩
  rcases List.mem_append.1 hx with hx | hx
  · rcases h with ⟨h1, h2⟩ | ⟨h1, ⟨n, h2, h3, h4⟩, h5⟩
    · exact absurd ⟨a, b⟩ (h2 x hx)
    · have := h5 x hx a b
      omega
  · rw [List.mem_singleton] at hx; subst hx; exact Int.le_refl _
theorem best_perm {M M' : List (Int × Int)} {bg : Int} (hp : M.Perm M') (h : bestOf M bg) : bestOf M' bg := by
  rcases h with ⟨h1, h2⟩ | ⟨h1, ⟨n, h2, h3, h4⟩, h5⟩
  · exact .inl ⟨h1, fun x hx => h2 x (hp.mem_iff.2 hx)⟩
  · exact .inr ⟨h1, ⟨n, hp.mem_iff.1 h2, h3, h4⟩, fun x hx => h5 x (hp.mem_iff.2 hx)⟩
set_option maxHeartbeats 8000000 in
set_option maxRecDepth 100000 in
theorem so_least (f : Nat → Value) (w4 : World) (mb rb : Nat) (M : List (Int × Int)) (cnt : Nat) (hpos : ∀ x ∈ M, 0 ≤ x.1 ∧ x.1 ≤ 99999999 ∧ 0 ≤ x.2 ∧ x.2 ≤ 16777216) (f8 : f 8 = .map (some mb)) (f21 : f 21 = .int .i64 (-1)) (f110 : f 110 = .pointer (some ⟨rb, 0, none⟩)) (hrb : w4.heap.size ≤ rb + 1) (hr : RangeK inK intEl w4 mb rb M [] M cnt)
    (J : Act → World → Prop) (Q : Exit → Act → World → Prop) (hJ : ∀ a w, SoI2 f mb M w4 a w → J a w) : Code.wp Tryz.prog (soC 4) (Exit.then J Q) (Fr 180 f) w4 := by
  have HJ := Lib.hid hJ
  have HPOS := Lib.hid hpos
  have HF8 := Lib.hid f8
  clear hJ hpos
  conv => arg 2; whnf
  refine wp_block ?_
  refine wp_loop (SoL2 mb rb M w4 (f 7) (f 18) (f 19)) (fun _ w => w.rangeLeft mb rb) ⟨f, [], M, cnt, -1, rfl, rfl, f8, rfl, rfl, f21, f110, hr, .inl rfl, .inl ⟨rfl, fun x hx => by cases hx⟩, Chg.refl _ _⟩ ?_
  obtain ⟨v7, hv7⟩ : ∃ v, v = f 7 := ⟨_, rfl⟩
  obtain ⟨v18, hv18⟩ : ∃ v, v = f 18 := ⟨_, rfl⟩
  obtain ⟨v19, hv19⟩ : ∃ v, v = f 19 := ⟨_, rfl⟩
  rw [← hv7, ← hv18, ← hv19]
  have HV7 := Lib.hid hv7
  have HV18 := Lib.hid hv18
  have HV19 := Lib.hid hv19
  clear f8 f21 f110 hr hv7 hv18 hv19
  rintro a wr ⟨f9, vis, rem, cnt, bg, rfl, f7, f8, f18, f19, f21, f110, hr, hbm, hbest, hchg⟩
  have HR := Lib.hid hr
  have HBM := Lib.hid hbm
  have HBEST := Lib.hid hbest
  have HCH := Lib.hid hchg
  have hbg : -1 ≤ bg ∧ bg ≤ 99999999 := by
    rcases hbm with h | ⟨l, h⟩
    · omega
    · have := HPOS.out _ h; simp only at this; omega
  have HLEFT : Hid (∀ w' : World, w'.rangeLeft mb rb < cnt → w'.rangeLeft mb rb < wr.rangeLeft mb rb) := Lib.hid fun w' h => by rw [HR.out.left]; exact h
  obtain ⟨M0, hM0⟩ : ∃ M0, M0 = wr.rangeLeft mb rb := ⟨_, rfl⟩
  rw [← hM0] at HLEFT ⊢
  clear hM0 hr hbm hbest hchg
  rw [fr_lit180 f9, f7, f8, f18, f19, f21, f110]
  go_wp2_with (at_next; refine wpList_next_ii rfl _ rfl mb rb M vis rem cnt rfl HR.out ?cd ?cm)
  case cd =>
    intro hrem
    have hp : vis.Perm M := by
      have := HR.out
      rw [hrem] at this
      exact this.done
    have HP := Lib.hid hp
    clear hrem hp
    go_wp2_with fail
    exact HJ.out _ _ ⟨_, bg, lit_fr180 _ rfl, HV7.out, HF8.out.symm, HV18.out, HV19.out, rfl, HBM.out, best_perm HP.out HBEST.out, HR.out.map, HCH.out.wide (fun i _ hi => by omega)⟩
  case cm =>
    intro p l r1 r2 w5 cnt5 hrem hmem hr5 hlt5 hg5 hs5 hen
    have hpos := HPOS.out _ hmem
    simp only at hpos
    obtain ⟨hp0, hp1, hl0, hl1⟩ := hpos
    have hch5 : Chg (fun q => q = rb) w4 w5 := HCH.out.trans (Chg.of_grown (S := fun q => q = rb) hg5 (fun q hq _ => by cases hq; rfl)) (fun _ _ x => x)
    have HR5 := Lib.hid hr5
    have HC5 := Lib.hid hch5
    have HMEM := Lib.hid hmem
    have HLT : Hid (w5.rangeLeft mb rb < M0) := Lib.hid (HLEFT.out _ (by rw [hr5.left]; exact hlt5))
    have htm : p.tmod 16 = p % 16 := Int.tmod_eq_emod_of_nonneg hp0
    clear hrem hmem hr5 hg5 hs5 hch5 hlt5
    obtain ⟨m, hm⟩ : ∃ m, m = p % 16 := ⟨_, rfl⟩
    rw [← hm] at htm
    have HMM := Lib.hid hm
    clear hm
    by_cases hq : m = 0 ∧ l ≤ 16
    · obtain ⟨rfl, hl16⟩ := hq
      have hq16 : p % 16 = 0 ∧ l ≤ 16 := ⟨HMM.out.symm, hl16⟩
      have HQ16 := Lib.hid hq16
      clear hq16
      by_cases hb0 : bg < 0
      · go_wp2_with fail
        exact ⟨⟨_, _, _, _, p, lit_fr180 _ rfl, rfl, rfl, rfl, rfl, rfl, rfl, HR5.out, .inr ⟨l, HMEM.out⟩, best_take HBEST.out hp0 HQ16.out (.inl hb0), HC5.out⟩, HLT.out⟩
      · have hb0' : decide (bg < 0) = false := decide_eq_false hb0
        by_cases hpb : p < bg
        · go_wp2_with fail
          exact ⟨⟨_, _, _, _, p, lit_fr180 _ rfl, rfl, rfl, rfl, rfl, rfl, rfl, HR5.out, .inr ⟨l, HMEM.out⟩, best_take HBEST.out hp0 HQ16.out (.inr hpb), HC5.out⟩, HLT.out⟩
        · have hpb' : decide (p < bg) = false := decide_eq_false hpb
          go_wp2_with fail
          exact ⟨⟨_, _, _, _, bg, lit_fr180 _ rfl, rfl, rfl, rfl, rfl, rfl, rfl, HR5.out, HBM.out, best_keep HBEST.out (by omega) (by omega), HC5.out⟩, HLT.out⟩
    · have HNQ : Hid (¬ (p % 16 = 0 ∧ l ≤ 16)) := Lib.hid (by rw [← HMM.out]; exact hq)
      by_cases hm0 : m = 0
      · subst hm0
        have hl16 : ¬ (l ≤ 16) := fun h => hq ⟨rfl, h⟩
        have hl16' : decide (l ≤ 16) = false := decide_eq_false hl16
        clear hq
        go_wp2_with fail
        exact ⟨⟨_, _, _, _, bg, lit_fr180 _ rfl, rfl, rfl, rfl, rfl, rfl, rfl, HR5.out, HBM.out, best_none HBEST.out HNQ.out, HC5.out⟩, HLT.out⟩
      · have hm0' : (m == 0) = false := by simpa using hm0
        clear hq
        go_wp2_with fail
        exact ⟨⟨_, _, _, _, bg, lit_fr180 _ rfl, rfl, rfl, rfl, rfl, rfl, rfl, HR5.out, HBM.out, best_none HBEST.out HNQ.out, HC5.out⟩, HLT.out⟩
end Go.Proofs.YtgephceihkkokaaGreatDoor

/-! ### SoC -/
namespace Go.Proofs.YtgephceihkkokaaGreatDoor
open Go.RowKit Go.Deep
set_option linter.unusedVariables false
set_option linter.unusedSimpArgs false
attribute [local go_sem] fr_opt

/-- The frame behind the fourth loop. -/
def SoI3 (f : Nat → Value) (kt Et : Nat) (w4 : World) (a : Act) (w : World) : Prop := ∃ (f' : Nat → Value), a = Fr 180 f' ∧ f' 7 = f 7 ∧ f' 8 = f 8 ∧ f' 18 = f 18 ∧ f' 19 = f 19 ∧ f' 21 = f 21 ∧ f' 24 = .int .i64 (kt : Int) ∧ f' 25 = .int .i64 (Et : Int) ∧ w = w4
def beyond (P : List (Nat × Nat)) (a : Nat) : Nat := (P.filter fun x => decide (a ≤ x.1)).length
theorem beyond_le (P : List (Nat × Nat)) {a b : Nat} (h : a ≤ b) : beyond P b ≤ beyond P a := by
  unfold beyond
  induction P with
  | nil => exact Nat.le_refl _
  | cons x t ih =>
    rw [List.filter_cons, List.filter_cons]
    by_cases h1 : b ≤ x.1
    · rw [if_pos (by simpa using h1), if_pos (by simp; omega)]
      simp only [List.length_cons]
      omega
    · rw [if_neg (by simpa using h1)]
      split
      · simp only [List.length_cons]; omega
      · exact ih
theorem beyond_lt {P : List (Nat × Nat)} {a l b : Nat} (h : lookL P a = some l) (hab : a < b) : beyond P b < beyond P a := by
  induction P with
  | nil => cases h
  | cons x t ih =>
    obtain ⟨p, k⟩ := x
    unfold lookL at h
    unfold beyond
    rw [List.filter_cons, List.filter_cons]
    have hle := beyond_le t (Nat.le_of_lt hab)
    unfold beyond at hle ih
    by_cases hp : p = a
    · subst hp
      have h1 : ¬ (b ≤ p) := by omega
      rw [if_neg (by simpa using h1), if_pos (by simp)]
      simp only [List.length_cons]
      omega
    · rw [if_neg hp] at h
      have := ih h
      by_cases h1 : b ≤ p
      · rw [if_pos (by simpa using h1), if_pos (by simp; omega)]
        simp only [List.length_cons]
        omega
      · rw [if_neg (by simpa using h1)]
        split
        · simp only [List.length_cons]; omega
        · exact this
def SoL3 (mb : Nat) (P : List (Nat × Nat)) (kt Et : Nat) (b : Int) (w4 : World) (v7 v18 v19 : Value) (a : Act) (w : World) : Prop := ∃ (f : Nat → Value) (s at_ E fu : Nat), a = Fr 180 f ∧ f 7 = v7 ∧ f 8 = .map (some mb) ∧ f 18 = v18 ∧ f 19 = v19 ∧ f 21 = .int .i64 b ∧ f 24 = .int .i64 (s : Int) ∧ f 25 = .int .i64 (E : Int) ∧ f 26 = .int .i64 (at_ : Int) ∧ w = w4 ∧ s + (lawL P fu at_ E).1 = kt ∧ (lawL P fu at_ E).2 = Et ∧ beyond P at_ < fu ∧ s + fu ≤ 25 ∧ at_ + 16 * fu ≤ 100001000 ∧ E ≤ 100001000
def SoM3 (a : Act) (_ : World) : Nat := 100001000 - (intOf (a.tmps.getD 26 undef)).toNat
set_option maxHeartbeats 8000000 in
set_option maxRecDepth 100000 in
theorem so_chain (f : Nat → Value) (w4 : World) (mb : Nat) (M : List (Int × Int)) (P : List (Nat × Nat)) (bg : Int) (kt Et : Nat) (hm : MapK inK intEl w4 mb M) (hrel : ∀ a : Nat, getK M (a : Int) = (lookL P a).map fun l => (l : Int)) (hlen : P.length ≤ 20) (hl20 : ∀ a l, lookL P a = some l → l ≤ 16777216)
    (htot : (bg = -1 ∧ kt = 0 ∧ Et = 0) ∨ ∃ b : Nat, bg = (b : Int) ∧ b ≤ 99999999 ∧ (kt, Et) = lawL P (P.length + 1) b 0)
    (f8 : f 8 = .map (some mb)) (f21 : f 21 = .int .i64 bg) (f24 : f 24 = .int .i64 0) (f25 : f 25 = .int .i64 0) (f26 : f 26 = .int .i64 bg)
    (J : Act → World → Prop) (Q : Exit → Act → World → Prop) (hJ : ∀ a w, SoI3 f kt Et w4 a w → J a w) : Code.wp Tryz.prog (soC 6) (Exit.then J Q) (Fr 180 f) w4 := by
  rcases htot with ⟨rfl, rfl, rfl⟩ | ⟨b, rfl, hb, htot⟩
  · have HJ := Lib.hid hJ
    clear hJ hm hrel
    conv => arg 2; whnf
    refine wp_block ?_
    refine wp_loop (fun a w => a = Fr 180 f ∧ w = w4) (fun _ _ => 0) ⟨rfl, rfl⟩ ?_
    rintro a w ⟨rfl, rfl⟩
    rw [fr_lit180 f, f8, f21, f24, f25, f26]
    go_wp2_with fail
    exact HJ.out _ _ ⟨_, lit_fr180 _ rfl, rfl, f8.symm, rfl, rfl, f21.symm, rfl, rfl, rfl⟩
  · have HJ := Lib.hid hJ
    have HMK := Lib.hid hm
    have HREL := Lib.hid hrel
    have HL20 := Lib.hid hl20
    have HF8 := Lib.hid f8
    have HF21 := Lib.hid f21
    clear hJ hm hrel hl20
    conv => arg 2; whnf
    refine wp_block ?_
    have hbl : beyond P b ≤ P.length := List.length_filter_le _ _
    refine wp_loop (SoL3 mb P kt Et (b : Int) w4 (f 7) (f 18) (f 19)) SoM3 ⟨f, 0, b, 0, P.length + 1, rfl, rfl, f8, rfl, rfl, f21, f24, f25, f26, rfl, ?_, ?_, by omega, by omega, by omega, by omega⟩ ?_
    · rw [← htot]; exact Nat.zero_add _
    · rw [← htot]
    obtain ⟨v7, hv7⟩ : ∃ v, v = f 7 := ⟨_, rfl⟩
    obtain ⟨v18, hv18⟩ : ∃ v, v = f 18 := ⟨_, rfl⟩
    obtain ⟨v19, hv19⟩ : ∃ v, v = f 19 := ⟨_, rfl⟩
    rw [← hv7, ← hv18, ← hv19]
    have HV7 := Lib.hid hv7
    have HV18 := Lib.hid hv18
    have HV19 := Lib.hid hv19
    clear f8 f21 f24 f25 f26 hv7 hv18 hv19 htot hbl
    rintro a wr ⟨f9, s, at_, E, fu, rfl, f7, f8, f18, f19, f21, f24, f25, f26, rfl, ht1, ht2, hby, hs25, ha, hE⟩
    obtain ⟨fv, rfl⟩ : ∃ fv, fu = fv + 1 := ⟨fu - 1, by omega⟩
    have HM : Hid (∀ a' w' (k' : Nat), a'.tmps.getD 26 undef = .int .i64 ((k' : Nat) : Int) → at_ < k' → k' ≤ 100001000 → SoM3 a' w' < SoM3 (Fr 180 f9) wr) := Lib.hid fun a' w' k' e1 e2 e3 => by
      have e4 : (Fr 180 f9).tmps.getD 26 undef = .int .i64 (at_ : Int) := (fr_get (by decide)).trans f26
      unfold SoM3
      rw [e1, e4]
      simp only [intOf, Int.toNat_natCast]
      omega
    obtain ⟨M0, hM0⟩ : ∃ M0, M0 = SoM3 (Fr 180 f9) wr := ⟨_, rfl⟩
    rw [← hM0] at HM ⊢
    clear hM0
    have hlk := HMK.out.look (t := 49) (e := 3) Tryz.underlying49 (z := 0) (zero_int wr) (at_ : Int) (wf_nat at_ (by omega)) true
    rw [HREL.out at_] at hlk
    have HT1 := Lib.hid ht1
    have HT2 := Lib.hid ht2
    have HBY := Lib.hid hby
    rw [fr_lit180 f9, f7, f8, f18, f19, f21, f24, f25, f26]
    cases hl : lookL P at_ with
    | none =>
      rw [hl] at hlk
      have hlk : (Instr.lookup 49 (.map (some mb)) (.int .i64 (at_ : Int)) true).run Tryz.prog wr = .ok (.tuple #[.int .i64 0, .bool false]) wr := hlk
      have hlaw : lawL P (fv + 1) at_ E = (0, E) := by unfold lawL; rw [hl]
      rw [hlaw] at ht1 ht2
      obtain rfl : s = kt := ht1
      obtain rfl : E = Et := ht2
      clear hl hlaw HT1 HT2 hby
      go_wp2_with fail
      exact HJ.out _ _ ⟨_, lit_fr180 _ rfl, HV7.out, HF8.out.symm, HV18.out, HV19.out, HF21.out.symm, rfl, rfl, rfl⟩
    | some l =>
      rw [hl] at hlk
      have hlk : (Instr.lookup 49 (.map (some mb)) (.int .i64 (at_ : Int)) true).run Tryz.prog wr = .ok (.tuple #[.int .i64 (l : Int), .bool true]) wr := hlk
      have hl20 := HL20.out _ _ hl
      have hlaw : lawL P (fv + 1) at_ E = if 16 < l then (0, E) else if l < 16 then (1, at_ + l) else ((lawL P fv (at_ + 16) (at_ + l)).1 + 1, (lawL P fv (at_ + 16) (at_ + l)).2) := by
        show (match lookL P at_ with | none => _ | some l => _) = _
        rw [hl]
      have hbl : beyond P (at_ + 16) < beyond P at_ := beyond_lt hl (by omega)
      rw [hlaw] at ht1 ht2
      clear hl hlaw HT1 HT2
      by_cases h16 : 16 < l
      · rw [if_pos h16] at ht1 ht2
        obtain rfl : s = kt := ht1
        obtain rfl : E = Et := ht2
        have h16I : 16 < (l : Int) := by omega
        clear hbl hby
        go_wp2_with fail
        exact HJ.out _ _ ⟨_, lit_fr180 _ rfl, HV7.out, HF8.out.symm, HV18.out, HV19.out, HF21.out.symm, rfl, rfl, rfl⟩
      · rw [if_neg h16] at ht1 ht2
        have h16I : ¬ (16 < (l : Int)) := by omega
        have h16' : decide (16 < (l : Int)) = false := decide_eq_false h16I
        by_cases hlt : l < 16
        · rw [if_pos hlt] at ht1 ht2
          have e1 : (s : Int) + 1 = (kt : Int) := by have : s + 1 = kt := ht1; omega
          have e2 : (at_ : Int) + (l : Int) = (Et : Int) := by have : at_ + l = Et := ht2; omega
          have hltI : (l : Int) < 16 := by omega
          have HE1 := Lib.hid e1
          have HE2 := Lib.hid e2
          clear hbl hby ht1 ht2 e1 e2
          go_wp2_with fail
          refine HJ.out _ _ ⟨_, lit_fr180 _ rfl, HV7.out, HF8.out.symm, HV18.out, HV19.out, HF21.out.symm, ?_, ?_, rfl⟩
          · show Value.int .i64 _ = _
            first | exact congrArg (Value.int .i64) HE1.out | (rw [← HE1.out]; go_num)
          · show Value.int .i64 _ = _
            first | exact congrArg (Value.int .i64) HE2.out | (rw [← HE2.out]; go_num)
        · rw [if_neg hlt] at ht1 ht2
          obtain rfl : l = 16 := by omega
          have HA1 : Hid (s + 1 + (lawL P fv (at_ + 16) (at_ + 16)).1 = kt) := Lib.hid (by simp only at ht1; omega)
          have HA2 : Hid ((lawL P fv (at_ + 16) (at_ + 16)).2 = Et) := Lib.hid ht2
          have HA3 := Lib.hid hbl
          clear ht1 ht2 hbl hby hlt h16 h16I h16'
          go_wp2_with fail
          refine ⟨⟨_, s + 1, at_ + 16, at_ + 16, fv, lit_fr180 _ rfl, rfl, rfl, rfl, rfl, rfl, ?_, ?_, ?_, rfl, HA1.out, HA2.out, by have := HA3.out; have := HBY.out; omega, by omega, by omega, by omega⟩, HM.out _ _ (at_ + 16) ?_ (by omega) (by omega)⟩
          all_goals
            show Value.int .i64 _ = _
            go_num
end Go.Proofs.YtgephceihkkokaaGreatDoor

/-! ### SoW -/
namespace Go.Proofs.YtgephceihkkokaaGreatDoor
open Go.RowKit Go.Deep
set_option linter.unusedVariables false
set_option linter.unusedSimpArgs false
attribute [local go_sem] fr_opt

theorem names_all (st : St) : (namesS ⟨#[]⟩ st).length = st.fs.length := by
  rw [(namesS_perm ⟨#[]⟩ st).length_eq, List.filter_eq_self.2 (fun nm _ => by simp [Lib.hasPrefix]), List.length_map]
theorem has_get {st : St} {M : List (Int × Int)} (h : HasRel st hH M) (hn : (st.fs.map (·.1)).Nodup) (a : Nat) : getK M (a : Int) = (lookL (opensL st hH) a).map fun l => (l : Int) := by
  have hr := tellL_rises st hH _ (namesS_rise hH st) (namesS_nodup hn)
  cases hl : lookL (opensL st hH) a with
  | none =>
    refine getK_not fun x hx e => ?_
    obtain ⟨a', l', rfl, ha', hnm, hl'⟩ := (h.2 x).1 hx
    simp only at e
    obtain rfl : a' = a := by omega
    have : lookL (opensL st hH) a' = some l' := lookL_of hr (opensL_mem.2 ⟨ha', hnm, hl'⟩)
    rw [hl] at this
    cases this
  | some l =>
    have h1 := opensL_mem.1 (lookL_mem hl)
    exact getK_of h.1 ((h.2 _).2 ⟨a, l, rfl, h1⟩)
theorem has_pos {st : St} {M : List (Int × Int)} (h : HasRel st hH M) (hl : ∀ a, st.len (nameB hH a) ≤ 16777216) : ∀ x ∈ M, 0 ≤ x.1 ∧ x.1 ≤ 99999999 ∧ 0 ≤ x.2 ∧ x.2 ≤ 16777216 := fun x hx => by
  obtain ⟨a, l, rfl, ha, hn, rfl⟩ := (h.2 x).1 hx
  have := hl a
  simp only
  omega
theorem RowG.aside {w0 w w' : World} {b rb : Nat} {g : Gh} {st : St} {m : RowM} (h : RowG w0 w b g st m) (hs : w.heap.size ≤ rb) {S : Nat → Prop} (hc : Chg S w w') (hS : ∀ q, S q → rb ≤ q) : RowG w0 w' b g st m := by
  have hlt := h.disk.lt
  refine ⟨h.disk.chg hc (fun q hq hx => ?_), h.row.chg hc (fun hx => ?_), h.out, h.chg.trans hc (fun q hq hx => ?_), h.low, h.lowb, h.tab0⟩
  · have := hS q hx; have := hlt q hq; omega
  · have := hS _ hx; have := h.row.lt; omega
  · have := hS q hx; have := h.chg.size; omega
set_option maxHeartbeats 8000000 in
set_option maxRecDepth 100000 in
theorem walk_SegOpens (v0 : Value) (ps : List Int) (v1 : Value) (ls : List Int) (v2 : Value) (ts : List ByteArray) (w : World) (ht : Tab10 w) (h0 : IntsOf .i64 w v0 ps) (wf0 : ∀ n ∈ ps, (Lit.int .i64 n).wf = true) (h1 : IntsOf .u8 w v1 ls) (wf1 : ∀ n ∈ ls, (Lit.int .u8 n).wf = true) (h2 : Strs w 0 v2 ts) :
    Calls Tryz.prog 4 #[v0, v1, v2] w (FineR w) := by
  obtain ⟨a0, c0, hv0, _⟩ := id h0
  obtain ⟨a1, c1, hv1, _⟩ := id h1
  obtain ⟨a2, c2, hv2, _⟩ := id h2
  obtain ⟨n0, hn0⟩ : ∃ n, n = ps.length := ⟨_, rfl⟩
  obtain ⟨n1, hn1⟩ : ∃ n, n = ls.length := ⟨_, rfl⟩
  obtain ⟨n2, hn2⟩ : ∃ n, n = ts.length := ⟨_, rfl⟩
  rw [← hn0] at hv0
  rw [← hn1] at hv1
  rw [← hn2] at hv2
  subst hv0 hv1 hv2
  have HAW := Lib.hid (awake_any w ht)
  have HT := Lib.hid ht
  have H0 := Lib.hid h0
  have H1 := Lib.hid h1
  have H2 := Lib.hid h2
  have HW0 := Lib.hid wf0
  have HW1 := Lib.hid wf1
  clear ht h0 h1 h2 wf0 wf1 hn0 hn1 hn2
  go_enter Tryz.func4, Tryz.ntmps4
  go_wp2_with fail
  refine HAW.out.mono ?_
  rintro e w1 ⟨rfl, hc1⟩
  have HCW := Lib.hid hc1
  have HT1 := Lib.hid (tab_chg HT.out hc1)
  have HI0 := Lib.hid (ints_new H0.out hc1)
  have HI1 := Lib.hid (ints_new H1.out hc1)
  have HI2 := Lib.hid (strs_new0 H2.out hc1)
  clear hc1 H0 H1 H2 HAW
  by_cases hbig : 20 < n0
  · go_wp2_with fail
    go_ret
    exact ⟨rfl, HCW.out⟩
  have hbig' : decide (20 < (n0 : Int)) = false := decide_eq_false (by omega)
  by_cases hbig2 : 20 < n2
  · go_wp2_with fail
    go_ret
    exact ⟨rfl, HCW.out⟩
  have hbig2' : decide (20 < (n2 : Int)) = false := decide_eq_false (by omega)
  have hm0 : n0 ≤ 20 := by omega
  have hm2 : n2 ≤ 20 := by omega
  go_wp2_with fail
  refine (new_any 65536 _).mono ?_
  rintro e w2 ⟨rfl, hd2, hb2⟩
  obtain ⟨d, hd⟩ : ∃ d, d = w1.heap.size := ⟨_, rfl⟩
  rw [← hd] at hd2 ⊢
  have hdg : DiskG w1 w2 d ⟨d, none, []⟩ (newSt 65536) := ⟨hd2, rfl, Chg.of_below hb2, fun k hk => by simp [Gh.fp] at hk; omega⟩
  obtain ⟨mb, hmb⟩ : ∃ mb, mb = w2.heap.size := ⟨_, rfl⟩
  have hlaid : Laid w1 (w2.alloc (.map #[] 0)) d mb 0 0 := by
    have hlt := hdg.disk.lt
    refine ⟨_, _, [], ⟨hdg.new (Chg.alloc _ (Chg.refl _ _) _), ⟨Good.new 65536, rfl, rfl⟩, rfl, Nat.zero_le _, fun p hp => (by cases hp), hmb ▸ MapK.made w2, fun hx => ?_, ?_, Nat.le_refl _⟩, List.nodup_nil, fun x => ⟨(fun hx => by cases hx), ?_⟩⟩
    · have := hlt _ hx; omega
    · rw [hmb]; exact hdg.chg.size
    · rintro ⟨a, l, _, _, hx, _⟩
      cases hx
  have HLAID := Lib.hid hlaid
  have HMB := Lib.hid hmb
  clear hd2 hb2 hdg hd hlaid hmb hbig hbig2
  have hmm := @run_makeMap Tryz.prog
  go_upto_block 0 with fail
  clear hmm
  rw [← HMB.out]
  clear hbig' hbig2'
  refine cut_fr180 (fun f => SoI0 f w1 d mb) rfl ?_ (fun f9 h9 J hJ => so_places f9 w1 _ d mb a0 a1 n0 c0 n1 c1 ps ls HT1.out HI0.out HI1.out HW0.out HW1.out hm0 (h9 1) (h9 7) (h9 8) (h9 41) (h9 42) (h9 43) HLAID.out J _ hJ)
  rintro f9 h9 a' w3 ⟨f2, rfl, g2, g7, g8, hl3⟩
  have g2 : f2 2 = .slice a2 n2 c2 := g2.trans (h9 2)
  have g7 : f2 7 = .pointer (some ⟨d, 0, none⟩) := g7.trans (h9 7)
  have g8 : f2 8 = .map (some mb) := g8.trans (h9 8)
  have HL3 := Lib.hid hl3
  clear h9 hl3 HLAID
  go_step
  rw [fr_lit180 f2, g2, g7, g8]
  clear g2 g7 g8
  go_upto_block 2 with fail
  refine cut_fr180 (fun f => SoI1 f w1 d mb) rfl ?_ (fun f9 h9 J hJ => so_others f9 w1 _ d mb a2 n2 c2 ts HI2.out hm2 (h9 7) (h9 8) (h9 79) (h9 80) (h9 81) HL3.out J _ hJ (fun f' w' h6 hc => ?_))
  rotate_left
  · go_ret
    refine ⟨?_, HCW.out.trans hc (fun _ _ x => x)⟩
    rw [fr_get (by decide), h6]
  rintro f9 h9 a' w4 ⟨f3, rfl, g7, g8, hl4⟩
  have g7 : f3 7 = .pointer (some ⟨d, 0, none⟩) := g7.trans (h9 7)
  have g8 : f3 8 = .map (some mb) := g8.trans (h9 8)
  obtain ⟨g, st, M, hop, hrel⟩ := hl4
  have hls := list_strs g st ⟨#[]⟩ w4 hop.disk.disk (by have := hop.calm.good.len; omega)
  rw [hop.disk.d] at hls
  have HLS := Lib.hid hls
  have HOP := Lib.hid hop
  have HREL := Lib.hid hrel
  clear h9 hop hrel hls HL3
  go_step
  rw [fr_lit180 f3, g7, g8]
  clear g7 g8
  go_wp2_with fail
  refine HLS.out.mono ?_
  rintro e w5 ⟨v5, rfl, hv5, hb5⟩
  obtain ⟨la, lc, hlv, -⟩ := hv5
  rw [names_all] at hlv
  obtain ⟨na, hna⟩ : ∃ na, na = st.fs.length := ⟨_, rfl⟩
  rw [← hna] at hlv
  subst hlv
  have hna80 : na ≤ 80 := by rw [hna]; exact HOP.out.calm.good.len
  have HNA := Lib.hid hna
  have hop5 := HOP.out.new (Chg.of_below hb5)
  have hoc := open_calm w1 g st hH 16 80 w5 hop5.disk.disk hop5.disk.chg hop5.disk.low HT1.out hop5.calm (by omega) hop5.nm (by omega) (by omega)
  rw [hop5.disk.d] at hoc
  have HOP5 := Lib.hid hop5
  have HOC := Lib.hid hoc
  clear hna hb5 hop5 hoc HLS
  go_wp2_with fail
  refine HOC.out.mono ?_
  rintro e w6 ⟨b, rfl, hbw, g', hg', hto⟩
  have hmap6 : MapK inK intEl w6 mb M := HOP5.out.map.heap (hto.chg.block mb HOP5.out.map.lt HOP5.out.out)
  have HG6 := Lib.hid hg'
  have HD6 := Lib.hid (hto.d.trans HOP5.out.disk.d)
  have HMAP6 := Lib.hid hmap6
  have hpos := has_pos HREL.out (fun a => HOP.out.calm.good.lenN _)
  have HPOS := Lib.hid hpos
  clear hg' hto hmap6 hbw hpos HOC
  go_upto_block 4 with (at_range; refine wpList_range_ii rfl _ rfl mb M rfl HMAP6.out ?_; intro w7 cnt7 hrg7 hg7 hs7)
  obtain ⟨rb, hrb⟩ : ∃ rb, rb = w6.heap.size := ⟨_, rfl⟩
  rw [← hrb] at hrg7 hs7 ⊢
  have HRG7 := Lib.hid hrg7
  have HC7 := Lib.hid (Chg.of_grown (S := fun _ => False) hg7 (fun q hq _ => by cases hq))
  have HRB := Lib.hid hrb
  have HS7 := Lib.hid hs7
  clear hrg7 hg7 hs7 hrb
  refine cut_fr180 (fun f => SoI2 f mb M w7) rfl ?_ (fun f9 h9 J hJ => so_least f9 w7 mb rb M cnt7 HPOS.out (h9 8) (h9 21) (h9 110) (by rw [HS7.out]; omega) HRG7.out J _ hJ)
  rintro f9 h9 a' w8 ⟨f4, bg, rfl, g7, g8, g18, g19, g21, hbm, hbest, hmap8, hch8⟩
  have g7 : f4 7 = .pointer (some ⟨d, 0, none⟩) := g7.trans (h9 7)
  have g8 : f4 8 = .map (some mb) := g8.trans (h9 8)
  have g18 : f4 18 = .int .i64 (na : Int) := g18.trans (h9 18)
  have g19 : f4 19 = .pointer (some ⟨b, 0, none⟩) := g19.trans (h9 19)
  have hrow8 : RowG w1 w8 b g' (openS st hH 16) (openM st hH 16) := HG6.out.aside (rb := rb) (Nat.le_of_eq HRB.out.symm) (S := fun q => rb ≤ q) ((HC7.out.wide (S' := fun q => rb ≤ q) (fun q _ hq => hq.elim)).trans hch8 (fun q _ hq => by have := HS7.out; have hq : w7.heap.size ≤ q + 1 := hq; omega)) (fun q hq => hq)
  have hnd := HOP.out.calm.good.names
  obtain ⟨kt, Et, hbE, heE, hlE, htot⟩ : ∃ kt Et : Nat, (openM st hH 16).begin_ = max bg 0 ∧ (openM st hH 16).end_ = (Et : Int) ∧ (openS st hH 16).fs.length + M.length = st.fs.length + kt ∧ ((bg = -1 ∧ kt = 0 ∧ Et = 0) ∨ ∃ b : Nat, bg = (b : Int) ∧ b ≤ 99999999 ∧ (kt, Et) = lawL (opensL st hH) ((opensL st hH).length + 1) b 0) := by
    rcases opens_any HREL.out hnd hbest with ⟨rfl, e1, e2, e3⟩ | ⟨b, k, E, rfl, e1, e2, e3, e4⟩
    · exact ⟨0, 0, by rw [e1]; rfl, by rw [e2]; rfl, e3, .inl ⟨rfl, rfl, rfl⟩⟩
    · have hb9 : b ≤ 99999999 := by
        rcases hbm with h | ⟨l, h⟩
        · omega
        · have := HPOS.out _ h; simp only at this; omega
      exact ⟨k, E, by rw [e1]; omega, e2, e3, .inr ⟨b, rfl, hb9, e4⟩⟩
  have hlen := HREL.out.len hnd
  have HTOT := Lib.hid htot
  have HGET := Lib.hid (has_get HREL.out hnd)
  have HLN : Hid ((opensL st hH).length ≤ 20) := Lib.hid (by rw [hlen]; exact HOP.out.len)
  have HL20 : Hid (∀ a l, lookL (opensL st hH) a = some l → l ≤ 16777216) := Lib.hid fun a l h => by
    rw [(opensL_mem.1 (lookL_mem h)).2.2]
    exact HOP.out.calm.good.lenN _
  have hB := rbegin_any b g'.d (openM st hH 16) w8 hrow8.row
  rw [hbE] at hB
  have hE := rend_any b g'.d (openM st hH 16) w8 hrow8.row
  rw [heE] at hE
  have hnl80 : (openS st hH 16).fs.length ≤ 1000 := by have h1 := (HOP.out.calm.delete (openX st hH 16).2.2).good.len; exact Nat.le_trans h1 (by omega)
  have hL := list_strs g' (openS st hH 16) ⟨#[]⟩ w8 hrow8.disk (by omega)
  rw [HD6.out] at hL
  have hlm := fun ty => hmap8.len (t := 49) (e := 3) Tryz.underlying49 ty
  obtain ⟨nl, hnl⟩ : ∃ nl, nl = (openS st hH 16).fs.length := ⟨_, rfl⟩
  obtain ⟨ml, hml⟩ : ∃ ml, ml = M.length := ⟨_, rfl⟩
  have hml20 : ml ≤ 20 := by rw [hml]; exact HOP.out.len
  rw [← hnl, ← hml, ← HNA.out] at hlE
  rw [← hnl] at hnl80
  have hsum : (nl : Int) = (na : Int) - (ml : Int) + (kt : Int) := by omega
  have hkt : kt ≤ 2000 := by omega
  have HB := Lib.hid hB
  have HE := Lib.hid hE
  have HLL := Lib.hid hL
  have HNL := Lib.hid hnl
  have HML := Lib.hid hml
  have HSUM := Lib.hid hsum
  have HMAP8 := Lib.hid hmap8
  have HROW8 := Lib.hid hrow8
  clear hbE heE hlE htot hlen hB hE hL hnl hml hsum hmap8 hrow8 hbm hbest hch8 h9 hnd hlm
  go_step
  rw [fr_lit180 f4, g7, g8, g18, g19, g21]
  clear g7 g8 g18 g19 g21
  go_upto_block 6 with fail
  refine cut_fr180 (fun f => SoI3 f kt Et w8) rfl ?_ (fun f9 h9 J hJ => so_chain f9 w8 mb M (opensL st hH) bg kt Et HMAP8.out HGET.out HLN.out HL20.out HTOT.out (h9 8) (h9 21) (h9 24) (h9 25) (h9 26) J _ hJ)
  rintro f9 h9 a' w9 ⟨f5, rfl, g7, g8, g18, g19, g21, g24, g25, rfl⟩
  have g7 : f5 7 = .pointer (some ⟨d, 0, none⟩) := g7.trans (h9 7)
  have g8 : f5 8 = .map (some mb) := g8.trans (h9 8)
  have g18 : f5 18 = .int .i64 (na : Int) := g18.trans (h9 18)
  have g19 : f5 19 = .pointer (some ⟨b, 0, none⟩) := g19.trans (h9 19)
  have g21 : f5 21 = .int .i64 bg := g21.trans (h9 21)
  clear h9
  go_step
  rw [fr_lit180 f5, g7, g8, g18, g19, g21, g24, g25]
  clear g7 g8 g18 g19 g21 g24 g25
  go_wp2_with fail
  refine HB.out.mono ?_
  rintro e w10 ⟨rfl, rfl⟩
  go_wp2_with fail
  refine HE.out.mono ?_
  rintro e w10 ⟨rfl, rfl⟩
  go_wp2_with fail
  refine HLL.out.mono ?_
  rintro e w10 ⟨v10, rfl, hv10, hb10⟩
  obtain ⟨la2, lc2, hlv, -⟩ := hv10
  rw [names_all, ← HNL.out] at hlv
  subst hlv
  have hlm := fun ty => (HMAP8.out.heap (hb10.block mb HMAP8.out.lt)).len (t := 49) (e := 3) Tryz.underlying49 ty
  rw [← HML.out] at hlm
  have HC10 := Lib.hid (HCW.out.trans (HROW8.out.chg.trans (Chg.of_below (S := fun _ => False) hb10) (fun _ _ x => x)) (fun _ _ x => x))
  have hfin : ((nl : Int) == (na : Int) - (ml : Int) + (kt : Int)) = true := by rw [← HSUM.out]; simp
  clear hb10
  go_wp2_with fail
  go_ret
  exact ⟨rfl, HC10.out⟩
theorem walkF_SegOpens (v0 : Value) (ps : List Int) (v1 : Value) (ls : List Int) (v2 : Value) (ts : List ByteArray) (w : World) (ht : Tab10 w) (h0 : IntsOf .i64 w v0 ps) (wf0 : ∀ n ∈ ps, (Lit.int .i64 n).wf = true) (h1 : IntsOf .u8 w v1 ls) (wf1 : ∀ n ∈ ls, (Lit.int .u8 n).wf = true) (h2 : Strs w 0 v2 ts) :
    Calls Tryz.prog 4 #[v0, v1, v2] w (fun e w' => e = .returned (.bool true) ∧ Below w.heap.size w w') :=
  (walk_SegOpens v0 ps v1 ls v2 ts w ht h0 wf0 h1 wf1 h2).mono fun e w' hh => ⟨hh.1, hh.2.below (fun _ _ e => e.elim) (Nat.le_refl _)⟩
end Go.Proofs.YtgephceihkkokaaGreatDoor
