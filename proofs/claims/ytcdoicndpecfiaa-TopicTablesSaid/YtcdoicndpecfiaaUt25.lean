/-
  Part 25: what the statement needs of these texts: UTab.
-/
import Derived.BigQuiet
import Derived.Deep.AppendLies
import Derived.Deep.AppendSrc
import Derived.Deep.DeepCutAuto
import Derived.Deep.DeepMust
import Derived.Deep.OwnRows
import Derived.Deep.QuietTactic
import Derived.Deep.RegionHeld3
import Derived.Deep.RegionLaw
import Derived.IntWalk
import Derived.Laws.BitsAllLaws
import Derived.Laws.CopyOwn
import Derived.Laws.OwnMore
import Derived.Laws.PanicsMore
import Derived.Laws.Rows
import Derived.Laws.StructEq
import Derived.Lib.AppendZerosOnto
import Derived.Lib.BufferRead
import Derived.Lib.BufferWrite
import Derived.Lib.Hide
import Derived.Maps.AppendAt
import Derived.Maps.OwnSet
import Derived.Maps.RangeWalk
import Derived.Orders
import Derived.ProofKit
import Derived.Shelf.Slices.In.SortNone
import Derived.Shelf.Sort.Plain
import Derived.Shelf.Strings.Prefix
import Derived.Sort.OwnSorted
import Derived.StillTailTactics
import Derived.StringKeys
import Derived.Test.YtcdoicndpecfiaaProg
import Derived.Test.YtcdoicndpecfiaaRows
import Derived.WalkKit
import Derived.WalkLawsBesides
import Derived.WalkSpells
import Derived.Test.YtcdoicndpecfiaaUt1
import Derived.Test.YtcdoicndpecfiaaUt2
import Derived.Test.YtcdoicndpecfiaaUt3
import Derived.Test.YtcdoicndpecfiaaUt4
import Derived.Test.YtcdoicndpecfiaaUt5
import Derived.Test.YtcdoicndpecfiaaUt8
import Derived.Test.YtcdoicndpecfiaaUt9
import Derived.Test.YtcdoicndpecfiaaUt10
import Derived.Test.YtcdoicndpecfiaaUt12
import Derived.Test.YtcdoicndpecfiaaUt13
import Derived.Test.YtcdoicndpecfiaaUt14
import Derived.Test.YtcdoicndpecfiaaUt15
import Derived.Test.YtcdoicndpecfiaaUt16
import Derived.Test.YtcdoicndpecfiaaUt17
import Derived.Test.YtcdoicndpecfiaaUt18
import Derived.Test.YtcdoicndpecfiaaUt19
import Derived.Test.YtcdoicndpecfiaaUt20
import Derived.Test.YtcdoicndpecfiaaUt21
import Derived.Test.YtcdoicndpecfiaaUt22
import Derived.Test.YtcdoicndpecfiaaUt23
import Derived.Test.YtcdoicndpecfiaaUt24
namespace Go.Proofs.Ytcdoicndpecfiaa
open Go.RowKit Go.Deep
set_option linter.unusedVariables false
set_option linter.unusedSimpArgs false

abbrev TL := List (ByteArray × Int)
def tcs1 (t : ByteArray × Int) : List Value := [.string t.1, .int .i64 t.2]
def tcs (l : TL) : List Value := l.flatMap tcs1
def TRow (w : World) (v : Value) (l : TL) : Prop := w.ownsRow 0 31 2 v l.length (tcs l)
theorem tcs_len (l : TL) : (tcs l).length = l.length * 2 := by
  unfold tcs
  induction l with
  | nil => rfl
  | cons x l ih => rw [List.flatMap_cons, List.length_append, ih, List.length_cons]; show 2 + _ = _; omega
theorem tcs_get (l : TL) (i j : Nat) (hj : j < 2) : (tcs l)[i * 2 + j]? = (l[i]?).bind fun x => (tcs1 x)[j]? := by
  unfold tcs
  induction l generalizing i with
  | nil => simp
  | cons x l ih =>
    rw [List.flatMap_cons, List.getElem?_append]
    have hl : (tcs1 x).length = 2 := rfl
    cases i with
    | zero => rw [if_pos (by rw [hl]; omega), Nat.zero_mul, Nat.zero_add]; rfl
    | succ i =>
      rw [if_neg (by rw [hl]; omega), hl, List.getElem?_cons_succ, ← ih i]
      congr 1
      omega
theorem tcs_one (l : TL) : ∀ u ∈ tcs l, u.oneCell' = true := by
  intro u hu
  obtain ⟨x, _, hx⟩ := List.mem_flatMap.1 hu
  simp [tcs1] at hx
  rcases hx with rfl | rfl <;> rfl
theorem TRow.nil (w : World) : TRow w (.slice none 0 0) [] := World.ownsRow_nil _ _ _ _
theorem uadd_none (b o i : Nat) : (⟨b, o, none⟩ : Addr).add i = ⟨b, o + i, none⟩ := by unfold Addr.add; split <;> simp_all
theorem TRow.form {w : World} {v : Value} {l : TL} (h : TRow w v l) : (v = .slice none 0 0 ∧ l = []) ∨
    ∃ g cap, v = .slice (some ⟨g, 0, none⟩) l.length cap ∧ v.ownBlock = some g ∧ l.length ≤ cap ∧ g < w.heap.size ∧ ∀ i x, l[i]? = some x → w.cell? ⟨g, i * 2, none⟩ = some (.string x.1) ∧ w.cell? ⟨g, i * 2 + 1, none⟩ = some (.int .i64 x.2) := by
  have hc := fun (g : Nat) (hg : v.ownBlock = some g) => World.ownsRow.cells h (g := g) hg
  rcases h.2 with ⟨e, h0⟩ | ⟨g, cap, cur, e, _, hg, h1, h2, h3, h4⟩
  · exact .inl ⟨e, List.length_eq_zero_iff.1 h0⟩
  · have ho : v.ownBlock = some g := by rw [e]; rfl
    refine .inr ⟨g, cap, e, ho, h1, (Array.getElem?_eq_some_iff.1 hg).1, fun i x hx => ?_⟩
    have k := hc g ho
    have q0 : (tcs l)[i * 2 + 0]? = some (.string x.1) := by rw [tcs_get l i 0 (by decide), hx]; rfl
    have q1 : (tcs l)[i * 2 + 1]? = some (.int .i64 x.2) := by rw [tcs_get l i 1 (by decide), hx]; rfl
    have r0 := k _ _ q0
    have r1 := k _ _ q1
    rw [uadd_none, Nat.zero_add] at r0 r1
    exact ⟨r0, r1⟩
theorem TRow.len {w : World} {v : Value} {l : TL} (h : TRow w v l) : ∃ a cap, v = .slice a l.length cap := by
  rcases h.form with ⟨rfl, rfl⟩ | ⟨g, cap, rfl, _⟩
  · exact ⟨none, 0, rfl⟩
  · exact ⟨_, cap, rfl⟩
theorem TRow.chg {S : Nat → Prop} {w w' : World} {v : Value} {l : TL} (h : TRow w v l) (hc : Chg S w w') (hn : ∀ g, v.ownBlock = some g → ¬ S g) : TRow w' v l := hc.row h hn
theorem TRow.lt {w : World} {v : Value} {l : TL} (h : TRow w v l) : ∀ g, v.ownBlock = some g → g < w.heap.size := by
  intro g hg
  rcases h.form with ⟨rfl, rfl⟩ | ⟨g', cap, rfl, ho, _, hlt, _⟩
  · cases hg
  · rw [ho] at hg; injection hg with hg; rw [← hg]; exact hlt
theorem TRow.new {w w' : World} {v : Value} {l : TL} (h : TRow w v l) (hb : Below w.heap.size w w') : TRow w' v l := h.chg (Chg.of_below (S := fun _ => False) hb) (fun _ _ x => x)

theorem info_topic : (Try.prog.info? 31).map (fun i => (i.zero, i.size, i.bytes)) = some (some (.agg #[.string ⟨#[]⟩, .int .i64 0]), 2, 24) := by kernel_rfl
theorem uinfo_parts {t : TypeId} {z : Value} {s b : Nat} (h : (Try.prog.info? t).map (fun i => (i.zero, i.size, i.bytes)) = some (some z, s, b)) : ∃ i, Try.prog.info? t = some i ∧ i.zero = some z ∧ i.size = s ∧ i.bytes = b := by
  cases hi : Try.prog.info? t with
  | none => rw [hi] at h; cases h
  | some i =>
    rw [hi] at h
    simp only [Option.map_some, Option.some.injEq, Prod.mk.injEq] at h
    exact ⟨i, rfl, h.1, h.2.1, h.2.2⟩
/-- One is appended: the new list, and the old one too. -/
structure AppT (w : World) (v : Value) (l : TL) (x : ByteArray × Int) (v' : Value) (w' : World) : Prop where
  row : TRow w' v' (l ++ [x])
  old : TRow w' v l
  grown : w.grownBy w' v.ownBlock
  own : v'.ownBlock = v.ownBlock ∨ v'.ownBlock = some w.heap.size
set_option maxRecDepth 100000 in
theorem app_topic {w : World} {v : Value} {l : TL} (x : ByteArray × Int) {q c : Nat} (h : TRow w v l) (hl : l.length ≤ 1000) (h0 : w.cell? ⟨q, 0, none⟩ = some (.string x.1)) (h1 : w.cell? ⟨q, 1, none⟩ = some (.int .i64 x.2)) (ty : TypeId) :
    ∃ v' w', (Builtin.append_ #[22, 22] ty #[v, .slice (some ⟨q, 0, none⟩) 1 c]).run Try.prog w = .ok v' w' ∧ AppT w v l x v' w' := by
  obtain ⟨i0, hi, hz0, hz1, hz2⟩ := uinfo_parts info_topic
  have hnews : ∀ j u, (tcs1 x)[j]? = some u → w.cell? ((⟨q, 0, none⟩ : Addr).add j) = some u := fun j u hu => by
    rw [uadd_none, Nat.zero_add]
    match j with
    | 0 => simp [tcs1] at hu; subst hu; exact h0
    | 1 => simp [tcs1] at hu; subst hu; exact h1
    | j + 2 => simp [tcs1] at hu
  have hone : ∀ u ∈ tcs1 x, u.oneCell' = true := fun u hu => by simp [tcs1] at hu; rcases hu with rfl | rfl <;> rfl
  have he1 : tcs l ++ tcs1 x = tcs (l ++ [x]) := by unfold tcs; rw [List.flatMap_append]; simp
  have he2 : l.length + 1 = (l ++ [x]).length := by simp
  rcases h.2 with ⟨hv, hn⟩ | ⟨g, cap, cur, hv, hb, hg, hnc, hcm, hcs, htk⟩
  · obtain ⟨v', w', hr, k1, k2, _, k3⟩ := run_append_own_at (P := Try.prog) (w := w) 0 22 ty 31 i0 _ 2 24 Try.underlying22 hi hz0 hz1 hz2 rfl (by decide) v l.length (tcs l) h ⟨q, 0, none⟩ 1 c (tcs1 x) rfl hnews hone (by unfold maxLen; omega) (by omega) (Nat.zero_le _)
    rw [he1, he2] at k1
    refine ⟨v', w', hr, k1, ?_, k2, k3⟩
    have : l = [] := List.length_eq_zero_iff.1 hn
    subst this
    rw [hv]
    exact TRow.nil _
  · obtain ⟨g', cap', w', hr, k1, k2, k3, k4, k5⟩ := run_append_keep (P := Try.prog) w 22 ty 0 31 i0 _ 2 24 Try.underlying22 hi hz0 hz1 hz2 rfl (by decide) g l.length cap cur (tcs l) hg hnc hcm (by simpa using hcs) htk (tcs_len l) hb ⟨q, 0, none⟩ 1 c (tcs1 x) rfl hnews hone (by decide) (by unfold maxLen; omega) (by omega) (Nat.zero_le _)
    rw [he1] at k1 k5
    have hold : TRow w' v l := by
      refine ⟨h.1, .inr ⟨g, cap, ?_⟩⟩
      rcases Nat.lt_or_ge cap (l.length + 1) with hlt | hge
      · exact ⟨cur, hv, hb, (k4 hlt g (Array.getElem?_eq_some_iff.1 hg).1).trans hg, hnc, hcm, hcs, htk⟩
      · obtain ⟨_, cur', e1, e2, e3⟩ := k5 hge
        refine ⟨cur', hv, hb, e1, hnc, hcm, by simpa using e2, ?_⟩
        have : (tcs (l ++ [x])).take (l.length * 2) = tcs l := by
          rw [← he1, List.take_append_of_le_length (by rw [tcs_len]; exact Nat.le_refl _), List.take_of_length_le (by rw [tcs_len]; exact Nat.le_refl _)]
        rw [← this, ← e3, List.take_take]
        congr 1
        omega
    refine ⟨_, w', by rw [hv]; exact hr, ?_, hold, ?_, ?_⟩
    · unfold TRow
      rw [← he2]
      exact k1
    · rw [hv]; exact k2
    · rw [hv]
      rcases k3 with rfl | rfl
      · exact .inl rfl
      · exact .inr rfl

def plcI (s : ByteArray) : TL → Nat → Int
  | [], _ => -1
  | t :: l, i => if (t.1.toList == s.toList) = true then (i : Int) else plcI s l (i + 1)
def placeI (l : TL) (s : ByteArray) : Int := plcI s l 0
theorem toList_inj {a b : ByteArray} : (a.toList == b.toList) = true ↔ a = b := by
  constructor
  · intro h
    have h : a.toList = b.toList := by simpa using h
    rw [← Oc.ba_toList a, ← Oc.ba_toList b, h]
  · rintro rfl; simp
theorem plcI_drop (s : ByteArray) (l : TL) {k : Nat} {x : ByteArray × Int} (hx : l[k]? = some x) : plcI s (l.drop k) k = if (x.1.toList == s.toList) = true then (k : Int) else plcI s (l.drop (k + 1)) (k + 1) := by
  have hk := (List.getElem?_eq_some_iff.1 hx).1
  rw [List.drop_eq_getElem_cons hk]
  have : l[k] = x := (List.getElem?_eq_some_iff.1 hx).2
  rw [this]
  rfl
theorem plcI_spec (s : ByteArray) : ∀ (l : TL) (i : Nat), (plcI s l i = -1 ∧ ∀ t ∈ l, t.1 ≠ s) ∨ ∃ j x, plcI s l i = ((i + j : Nat) : Int) ∧ l[j]? = some x ∧ x.1 = s
  | [], i => .inl ⟨rfl, fun t h => by cases h⟩
  | t :: l, i => by
    unfold plcI
    by_cases h : (t.1.toList == s.toList) = true
    · rw [if_pos h]
      exact .inr ⟨0, t, rfl, rfl, toList_inj.1 h⟩
    · rw [if_neg h]
      rcases plcI_spec s l (i + 1) with ⟨h1, h2⟩ | ⟨j, x, h1, h2, h3⟩
      · refine .inl ⟨h1, fun y hy => ?_⟩
        rcases List.mem_cons.1 hy with rfl | hy
        · exact fun e => h (toList_inj.2 e)
        · exact h2 y hy
      · exact .inr ⟨j + 1, x, by rw [h1]; congr 1; omega, by simpa using h2, h3⟩
theorem placeI_spec (l : TL) (s : ByteArray) : (placeI l s = -1 ∧ ∀ t ∈ l, t.1 ≠ s) ∨ ∃ (j : Nat) (x : ByteArray × Int), placeI l s = (j : Int) ∧ l[j]? = some x ∧ x.1 = s := by
  rcases plcI_spec s l 0 with h | ⟨j, x, h1, h2⟩
  · exact .inl h
  · exact .inr ⟨j, x, by rw [← Nat.zero_add j]; exact h1, h2⟩

theorem pick_any (a s : ByteArray) (q : Int) (sb : Nat) (w : World) (hs : w.cell? ⟨sb, 0, none⟩ = some (.string s)) :
    Calls Try.prog 62 #[.agg #[.string a, .int .i64 q], .pointer (some ⟨sb, 0, none⟩)] w fun e w' => e = .returned (.bool (a.toList == s.toList)) ∧ Below w.heap.size w w' := by
  have hlt := World.block_lt_of_cell? _ _ hs
  have hs2 : (w.alloc (.cells #[.string a, .int .i64 q] 31)).cell? ⟨sb, 0, none⟩ = some (.string s) := (World.cell?_alloc_lt _ _ _ hlt).trans hs
  have HB := Lib.hid ((Below.refl w.heap.size w).alloc (Nat.le_refl _) (.cells #[.string a, .int .i64 q] 31))
  go_enter Try.func62, Try.ntmps62
  go_wp2_with fail
  go_ret
  exact ⟨rfl, HB.out⟩
set_option maxHeartbeats 1000000 in
theorem index_any (v : Value) (l : TL) (s : ByteArray) (sb : Nat) (w : World) (h : TRow w v l) (hl : l.length ≤ 1000) (hs : w.cell? ⟨sb, 0, none⟩ = some (.string s)) :
    Calls Try.prog 61 #[v, .func (.func 62) #[] #[.pointer (some ⟨sb, 0, none⟩)]] w fun e w' => e = .returned (.int .i64 (placeI l s)) ∧ Below w.heap.size w w' := by
  have hrow : ∀ w', Below w.heap.size w w' → TRow w' v l := fun w' hb => h.new hb
  have hcs : ∀ w', Below w.heap.size w w' → w'.cell? ⟨sb, 0, none⟩ = some (.string s) := fun w' hb => ukeep hb hs
  obtain ⟨a, cap, rfl⟩ := h.len
  obtain ⟨n, hn⟩ : ∃ n, n = l.length := ⟨_, rfl⟩
  obtain ⟨r, hr⟩ : ∃ r, r = placeI l s := ⟨_, rfl⟩
  rw [← hn] at hrow hl ⊢
  rw [← hr]
  have HROW := Lib.hid hrow
  have HCS := Lib.hid hcs
  have HN := Lib.hid hn
  have HR := Lib.hid hr
  clear hrow hcs hn hr h hs
  go_enter Try.func61, Try.ntmps61
  go_wp2_with fail
  go_loopw [8] (fun i wr => ∃ k : Nat, k ≤ n ∧ i = .int .i64 (k : Int) ∧ Hid (r = plcI s (l.drop k) k) ∧ Hid (Below w.heap.size w wr)) (fun i _ => n - (intOf i).toNat)
  case atStart => exact ⟨0, Nat.zero_le _, rfl, Lib.hid (by rw [HR.out, List.drop_zero]; rfl), Lib.hid (Below.refl _ _)⟩
  case round =>
    obtain ⟨k, hk, rfl, HK, HB⟩ := hrel
    by_cases hlt : k < n
    · obtain ⟨x, hx⟩ : ∃ x, l[k]? = some x := ⟨_, List.getElem?_eq_getElem (by rw [← HN.out]; exact hlt)⟩
      obtain ⟨g, rfl, c0, c1⟩ : ∃ g, a = some ⟨g, 0, none⟩ ∧ wr.cell? ⟨g, k * 2, none⟩ = some (.string x.1) ∧ wr.cell? ⟨g, k * 2 + 1, none⟩ = some (.int .i64 x.2) := by
        rcases (HROW.out wr HB.out).form with ⟨_, e⟩ | ⟨g, c, e, _, _, _, hc⟩
        · rw [e] at hx; cases hx
        · injection e with e1
          exact ⟨g, e1, hc k x hx⟩
      have hp := plcI_drop s l hx
      obtain ⟨bq, hbq⟩ : ∃ bq, bq = (x.1.toList == s.toList) := ⟨_, rfl⟩
      obtain ⟨x1, x2⟩ := x
      have hc := pick_any x1 s x2 sb wr (HCS.out wr HB.out)
      simp only at c0 c1 hp hbq
      rw [← hbq] at hp hc
      have HP := Lib.hid hp
      have HC := Lib.hid hc
      clear hp hbq hc hx
      cases bq with
      | true =>
        go_wp2_with fail
        refine HC.out.mono ?_
        rintro e w2 ⟨rfl, hb2⟩
        have HB2 := Lib.hid (ubelow_on hb2 HB.out (Nat.le_refl _))
        clear hb2
        go_wp2_with fail
        go_ret
        have e0 : r = (k : Int) := by rw [HK.out, HP.out]; simp
        rw [e0]
        exact ⟨rfl, HB2.out⟩
      | false =>
        go_wp2_with fail
        refine HC.out.mono ?_
        rintro e w2 ⟨rfl, hb2⟩
        have HB2 := Lib.hid (ubelow_on hb2 HB.out (Nat.le_refl _))
        clear hb2
        go_wp2_with fail
        exact ⟨⟨k + 1, by omega, by go_num, Lib.hid (by rw [HK.out, HP.out]; simp), HB2⟩, by simp [intOf]; omega⟩
    · have hkn : k = n := by omega
      have HKN := Lib.hid hkn
      clear hkn
      go_wp2_with fail
      go_ret
      have e0 : r = -1 := by
        rw [HK.out, HKN.out, HN.out, List.drop_length]
        rfl
      rw [e0]
      exact ⟨rfl, HB.out⟩
end Go.Proofs.Ytcdoicndpecfiaa

