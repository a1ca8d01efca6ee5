/-
  The contracts of cutText, cutList and of a reader's Text and List.
-/
import Derived.Test.YtelpkniockhjgaaGreatNum
import Derived.Deep.OwnRows
namespace Go.Proofs.YtelpkniockhjgaaGreat.Oc
open Go.RowKit Go.Deep

/-- A text off s: it, the rest, the error. -/
def textS (s : ByteArray) (most : Int) : ByteArray × ByteArray × Int :=
  if (numS s 2).2.2 = 0 then (if most < (numS s 2).1 then (⟨#[]⟩, ⟨#[]⟩, 6) else cutS (numS s 2).2.1 (numS s 2).1) else (⟨#[]⟩, ⟨#[]⟩, (numS s 2).2.2)

theorem cutText_any (s : ByteArray) (most : Int) (w : World) {t rest : ByteArray} {x : Int} (hc : textS s most = (t, rest, x)) : Calls Tryz.prog 96 #[.string s, .int .i64 most] w fun e w' => e = .returned (.tuple #[.string t, .string rest, .int .i64 x]) ∧ ∃ k, w' = w.drewN k := by
  unfold textS at hc
  obtain ⟨v, r, y, hy⟩ : ∃ v r y, numS s 2 = (v, r, y) := ⟨_, _, _, rfl⟩
  rw [hy] at hc
  have HY := Lib.hid hy
  clear hy
  by_cases h0 : y = 0
  · subst h0
    simp only [if_true] at hc
    by_cases h1 : most < (v : Int)
    · rw [if_pos h1] at hc
      simp only [Prod.mk.injEq] at hc
      obtain ⟨rfl, rfl, rfl⟩ := hc
      go_enter Tryz.func96, Tryz.ntmps96
      go_wp2_with fail
      refine (cutNum_any _ _ _ HY.out).mono ?_
      rintro e w' ⟨rfl, k0, rfl⟩
      go_wp2_with fail
      go_ret3
      exact ⟨rfl, _, rfl⟩
    · rw [if_neg h1] at hc
      have HC := Lib.hid hc
      clear hc
      go_enter Tryz.func96, Tryz.ntmps96
      go_wp2_with fail
      refine (cutNum_any _ _ _ HY.out).mono ?_
      rintro e w' ⟨rfl, k0, rfl⟩
      go_wp2_with fail
      refine (cut_any _ _ _ HC.out).mono ?_
      rintro e w' ⟨rfl, k1, rfl⟩
      go_wp2_with fail
      go_ret3
      exact ⟨rfl, k0 + k1, by simp [World.drewN]⟩
  · rw [if_neg h0] at hc
    simp only [Prod.mk.injEq] at hc
    obtain ⟨rfl, rfl, rfl⟩ := hc
    have hb : (y == 0) = false := by simpa using h0
    clear h0
    go_enter Tryz.func96, Tryz.ntmps96
    go_wp2_with fail
    refine (cutNum_any _ _ _ HY.out).mono ?_
    rintro e w' ⟨rfl, k0, rfl⟩
    go_wp2_with fail
    go_ret3
    exact ⟨rfl, _, rfl⟩

theorem text_none (b : Nat) (s : ByteArray) (n x : Int) (w : World) (h : Rd w b s x) (hx : x ≠ 0) : Calls Tryz.prog 76 #[.pointer (some ⟨b, 0, none⟩), .int .i64 n] w fun e w' => e = .returned (.string ⟨#[]⟩) ∧ w = w' := by
  have hb : (x == 0) = false := by simpa using hx
  have H := Lib.hid h
  clear h hx
  go_enter Tryz.func76, Tryz.ntmps76
  go_wp2_with (go_at_call 73; refine (err_any _ _ _ _ H.out).mono ?_; rintro e w' ⟨rfl, rfl⟩)
  go_ret
  exact ⟨rfl, rfl⟩

theorem text_any (b : Nat) (s : ByteArray) (n : Int) (w : World) (h : Rd w b s 0) {t rest : ByteArray} {x : Int} (hc : textS s n = (t, rest, x)) : Calls Tryz.prog 76 #[.pointer (some ⟨b, 0, none⟩), .int .i64 n] w fun e w' => e = .returned (.string t) ∧ Rd w' b (goS s rest x) x ∧ w.grownBy w' (some b) := by
  have h1 := h.rest
  have H := Lib.hid h
  have HC := Lib.hid hc
  clear h hc
  go_enter Tryz.func76, Tryz.ntmps76
  go_wp2_with fail
  refine (err_any _ _ _ _ H.out).mono ?_
  rintro e w' ⟨rfl, rfl⟩
  go_wp2_with fail
  refine (cutText_any _ _ _ HC.out).mono ?_
  rintro e w' ⟨rfl, k, rfl⟩
  go_wp2_with fail
  refine (goOn_any b s rest x _ (H.out.drewN k)).mono ?_
  rintro e w' ⟨rfl, hr, hg⟩
  have HR := Lib.hid hr
  have HG := Lib.hid (grownBy_trans (grownBy_drewN w k _) hg)
  clear hr hg
  go_wp2
  go_ret
  exact ⟨rfl, HR.out, HG.out⟩

/-- So many texts off s, behind those that are there: they, the rest, the error. -/
def textsS (most : Int) : Nat → ByteArray → List ByteArray → List ByteArray × ByteArray × Int
  | 0, s, acc => (acc, s, 0)
  | n + 1, s, acc => if (textS s most).2.2 = 0 then textsS most n (textS s most).2.1 (acc ++ [(textS s most).1]) else ([], ⟨#[]⟩, (textS s most).2.2)

/-- A list off s. -/
def listS (s : ByteArray) (many most : Int) : List ByteArray × ByteArray × Int :=
  if (numS s 1).2.2 = 0 then (if many < (numS s 1).1 then ([], ⟨#[]⟩, 6) else textsS most (numS s 1).1 (numS s 1).2.1 []) else ([], ⟨#[]⟩, (numS s 1).2.2)

/-- A slice value reads as these texts. -/
def Strs (w : World) (base : Nat) (v : Value) (ts : List ByteArray) : Prop :=
  ∃ a cap, v = .slice a ts.length cap ∧ (ts = [] ∨ ∃ b o, a = some ⟨b, o, none⟩ ∧ base ≤ b ∧ ∀ i, i < ts.length → w.cell? ⟨b, o + i, none⟩ = some (.string (ts.getD i ⟨#[]⟩)))

def ListPost (w : World) (ts : List ByteArray) (rest : ByteArray) (x : Int) (e : Ending) (w' : World) : Prop :=
  ∃ v, e = .returned (.tuple #[v, .string rest, .int .i64 x]) ∧ Strs w' w.heap.size v ts ∧ w.grownBy w' none

theorem numS_lt {s r : ByteArray} {n : Nat} {v : Nat} {y : Int} (h : numS s n = (v, r, y)) : v < 256 ^ n := by
  unfold numS at h
  have hp : 0 < 256 ^ n := Nat.pow_pos (by decide)
  split at h
  · split at h
    · rename_i h0
      obtain ⟨t, r', hc⟩ : ∃ t r', cutS s n = (t, r', 0) := ⟨(cutS s n).1, (cutS s n).2.1, by rw [← h0]⟩
      have hs := cutS_size hc
      rw [hc] at h
      simp only [Prod.mk.injEq] at h
      rw [← h.1]
      have := getN_lt t.data.toList
      rwa [show t.data.toList.length = n by have : t.data.toList.length = t.size := rfl
                                            omega] at this
    · (simp only [Prod.mk.injEq] at h; omega)
  · (simp only [Prod.mk.injEq] at h; omega)

theorem grownBy_new {a b : World} (h : a.grownBy b none) (nq : Nat) {p : Addr} (hp : a.heap.size ≤ p.block) (u : Value) : a.grownBy ((b.drewN nq).setCell p u) none :=
  ⟨h.os, h.tape, h.output, by have := h.size; simpa [World.setCell], fun k hk hn => by rw [Below.heap_setCell _ _ _ _ (by omega)]; exact h.block k hk hn⟩

theorem row_snoc {w : World} {B n : Nat} {acc : List ByteArray} (h : w.rowIs B 9 n (fun i => .string (acc.getD i ⟨#[]⟩))) (t : ByteArray) (nq : Nat) :
    ((w.drewN nq).setCell ⟨B, acc.length, none⟩ (.string t)).rowIs B 9 n (fun i => .string ((acc ++ [t]).getD i ⟨#[]⟩)) := by
  have h' : (w.drewN nq).rowIs B 9 n (fun i => .string (acc.getD i ⟨#[]⟩)) := h
  refine (h'.set acc.length (.string t)).congr fun i _ => ?_
  by_cases e : i = acc.length
  · subst e; simp
  · simp only [e, if_false]
    rcases Nat.lt_or_ge i acc.length with g | g
    · simp [List.getD_eq_getElem?_getD, List.getElem?_append_left g]
    · simp [List.getD_eq_getElem?_getD, List.getElem?_eq_none g, List.getElem?_eq_none (l := acc ++ [t]) (show (acc ++ [t]).length ≤ i by simp; omega)]

set_option maxHeartbeats 1000000 in
theorem cutList_any (s : ByteArray) (many most : Int) (w : World) {ts : List ByteArray} {rest : ByteArray} {x : Int} (hc : listS s many most = (ts, rest, x)) : Calls Tryz.prog 97 #[.string s, .int .i64 many, .int .i64 most] w (ListPost w ts rest x) := by
  unfold listS at hc
  obtain ⟨v, r, y, hy⟩ : ∃ v r y, numS s 1 = (v, r, y) := ⟨_, _, _, rfl⟩
  rw [hy] at hc
  have hv : v < 256 := numS_lt (n := 1) hy
  have HY := Lib.hid hy
  clear hy
  by_cases h0 : y = 0
  · subst h0
    simp only [if_true] at hc
    by_cases h1 : many < (v : Int)
    · rw [if_pos h1] at hc
      simp only [Prod.mk.injEq] at hc
      obtain ⟨rfl, rfl, rfl⟩ := hc
      go_enter Tryz.func97, Tryz.ntmps97
      go_wp2_with fail
      refine (cutNum_any _ _ _ HY.out).mono ?_
      rintro e w' ⟨rfl, k0, rfl⟩
      go_wp2_with fail
      go_ret3
      exact ⟨_, rfl, ⟨none, 0, rfl, .inl rfl⟩, grownBy_drewN _ _ _⟩
    · rw [if_neg h1] at hc
      have HC := Lib.hid hc
      clear hc
      have hmk := fun w => run_make_row' (P := Tryz.prog) 22 9 (.string ⟨#[]⟩) 16 Tryz.underlying22 (by kernel_rfl) rfl .i64 .i64 v (by omega) (by omega) w
      go_enter Tryz.func97, Tryz.ntmps97
      go_wp2_with fail
      refine (cutNum_any _ _ _ HY.out).mono ?_
      rintro e w' ⟨rfl, k0, rfl⟩
      go_wp2_with fail
      have hrow : ((w.drewN k0).alloc (.cells (madeCells #[.string ⟨#[]⟩] v) 9)).rowIs w.heap.size 9 v (fun i => .string (([] : List ByteArray).getD i ⟨#[]⟩)) :=
        (World.rowIs_made (w.drewN k0) (.string ⟨#[]⟩) v 9).congr fun i _ => by simp
      have hgr : w.grownBy ((w.drewN k0).alloc (.cells (madeCells #[.string ⟨#[]⟩] v) 9)) none := grownBy_trans (grownBy_drewN w k0 none) (World.grownBy_alloc (w.drewN k0) _ none)
      have HROW := Lib.hid hrow
      have HGR := Lib.hid hgr
      clear hrow hgr hmk
      go_loopw [10, 11, 30] (fun q z i wr => ∃ (acc : List ByteArray) (rk : ByteArray), acc.length ≤ v ∧ i = .int .i64 acc.length ∧ q = .string rk ∧ z = .int .i64 0 ∧ textsS most (v - acc.length) rk acc = (ts, rest, x) ∧ wr.rowIs w.heap.size 9 v (fun i => .string (acc.getD i ⟨#[]⟩)) ∧ w.grownBy wr none) (fun _ _ i _ => v - (intOf i).toNat)
      case atStart => exact ⟨[], r, Nat.zero_le _, rfl, rfl, rfl, HC.out, HROW.out, HGR.out⟩
      case round =>
        obtain ⟨acc, rk, hk, rfl, rfl, rfl, hres, hrow, hgr⟩ := hrel
        by_cases hlt : acc.length < v
        · obtain ⟨m, hm⟩ : ∃ m, v - acc.length = m + 1 := ⟨v - acc.length - 1, by omega⟩
          rw [hm] at hres
          simp only [textsS] at hres
          obtain ⟨t, q, z, hz⟩ : ∃ t q z, textS rk most = (t, q, z) := ⟨_, _, _, rfl⟩
          rw [hz] at hres
          have HZ := Lib.hid hz
          have HM := Lib.hid hm
          clear hz hm
          have hcell := hrow.cell hlt
          have hfree := hrow.frozen acc.length
          have HROW' := Lib.hid hrow
          have HGR' := Lib.hid hgr
          clear hrow hgr
          by_cases hz0 : z = 0
          · subst hz0
            simp only [if_true] at hres
            have HRES := Lib.hid hres
            clear hres
            go_wp2_with (go_at_call 96; refine (cutText_any _ _ _ HZ.out).mono ?_; rintro e w' ⟨rfl, k1, rfl⟩)
            refine ⟨⟨acc ++ [t], q, by simp; omega, by simp, rfl, rfl, ?_, row_snoc HROW'.out t k1, grownBy_new HGR'.out k1 (Nat.le_refl _) _⟩, by simp [intOf]; omega⟩
            rw [← HRES.out]
            congr 1
            have := HM.out
            simp; omega
          · rw [if_neg hz0] at hres
            simp only [Prod.mk.injEq] at hres
            obtain ⟨rfl, rfl, rfl⟩ := hres
            have hb : (z == 0) = false := by simpa using hz0
            clear hz0
            go_wp2_with (go_at_call 96; refine (cutText_any _ _ _ HZ.out).mono ?_; rintro e w' ⟨rfl, k1, rfl⟩)
            go_ret3
            exact ⟨_, rfl, ⟨none, 0, rfl, .inl rfl⟩, grownBy_new HGR'.out k1 (Nat.le_refl _) _⟩
        · have hl : acc.length = v := by omega
          rw [hl, Nat.sub_self] at hres
          simp only [textsS, Prod.mk.injEq] at hres
          obtain ⟨rfl, rfl, rfl⟩ := hres
          have HROW' := Lib.hid hrow
          have HGR' := Lib.hid hgr
          have HL := Lib.hid hl
          clear hrow hgr hl
          go_wp2_with fail
          go_ret3
          refine ⟨_, rfl, ⟨some ⟨w.heap.size, 0, none⟩, v, ?_, .inr ⟨_, _, rfl, Nat.le_refl _, ?_⟩⟩, HGR'.out⟩
          · rw [HL.out]; rfl
          · intro i hi
            rw [Nat.zero_add]
            exact HROW'.out.cell (by rw [← HL.out]; exact hi)
  · rw [if_neg h0] at hc
    simp only [Prod.mk.injEq] at hc
    obtain ⟨rfl, rfl, rfl⟩ := hc
    have hb : (y == 0) = false := by simpa using h0
    clear h0
    go_enter Tryz.func97, Tryz.ntmps97
    go_wp2_with fail
    refine (cutNum_any _ _ _ HY.out).mono ?_
    rintro e w' ⟨rfl, k0, rfl⟩
    go_wp2_with fail
    go_ret3
    exact ⟨_, rfl, ⟨none, 0, rfl, .inl rfl⟩, grownBy_drewN _ _ _⟩

def ListsPost (w : World) (b : Nat) (ts : List ByteArray) (s : ByteArray) (x : Int) (e : Ending) (w' : World) : Prop :=
  ∃ v, e = .returned v ∧ Strs w' w.heap.size v ts ∧ Rd w' b s x ∧ w.grownBy w' (some b)

theorem Strs.kept {w w' : World} {base : Nat} {v : Value} {ts : List ByteArray} (h : Strs w base v ts) {r : Option Nat} (hg : w.grownBy w' r) (hr : ∀ k, r = some k → k < base) : Strs w' base v ts := by
  obtain ⟨a, cap, rfl, h⟩ := h
  refine ⟨a, cap, rfl, ?_⟩
  rcases h with h | ⟨b, o, rfl, hb, h⟩
  · exact .inl h
  · exact .inr ⟨b, o, rfl, hb, fun i hi => hg.cell (h i hi) (fun e => by have := hr _ e.symm; simp at this; omega)⟩
theorem Rd.same {w w' : World} {b : Nat} {s : ByteArray} {e : Int} (h : Rd w b s e) (hg : w.grownBy w' none) : Rd w' b s e := by
  unfold Rd; rw [hg.block b h.lt (by simp)]; exact h
theorem grownBy_wide {a b : World} (h : a.grownBy b none) (r : Option Nat) : a.grownBy b r := ⟨h.os, h.tape, h.output, h.size, fun k hk _ => h.block k hk (by simp)⟩

theorem list_none (b : Nat) (s : ByteArray) (n m x : Int) (w : World) (h : Rd w b s x) (hx : x ≠ 0) : Calls Tryz.prog 77 #[.pointer (some ⟨b, 0, none⟩), .int .i64 n, .int .i64 m] w fun e w' => e = .returned (.slice none 0 0) ∧ w = w' := by
  have hb : (x == 0) = false := by simpa using hx
  have H := Lib.hid h
  clear h hx
  go_enter Tryz.func77, Tryz.ntmps77
  go_wp2_with (go_at_call 73; refine (err_any _ _ _ _ H.out).mono ?_; rintro e w' ⟨rfl, rfl⟩)
  go_ret
  exact ⟨rfl, rfl⟩

theorem list_any (b : Nat) (s : ByteArray) (many most : Int) (w : World) (h : Rd w b s 0) {ts : List ByteArray} {rest : ByteArray} {x : Int} (hc : listS s many most = (ts, rest, x)) : Calls Tryz.prog 77 #[.pointer (some ⟨b, 0, none⟩), .int .i64 many, .int .i64 most] w (ListsPost w b ts (goS s rest x) x) := by
  have h1 := h.rest
  have H := Lib.hid h
  have HC := Lib.hid hc
  clear h hc
  go_enter Tryz.func77, Tryz.ntmps77
  go_wp2_with fail
  refine (err_any _ _ _ _ H.out).mono ?_
  rintro e w' ⟨rfl, rfl⟩
  go_wp2_with fail
  refine (cutList_any _ _ _ _ HC.out).mono ?_
  rintro e w1 ⟨v, rfl, hs, hg⟩
  have HS := Lib.hid hs
  have HG := Lib.hid hg
  clear hs hg
  go_wp2_with fail
  refine (goOn_any b s rest x _ (H.out.same HG.out)).mono ?_
  rintro e w' ⟨rfl, hr, hg⟩
  have HR := Lib.hid hr
  have HG2 := Lib.hid hg
  clear hr hg
  go_wp2
  go_ret
  exact ⟨_, rfl, HS.out.kept HG2.out (fun k e => by cases e; exact H.out.lt), HR.out, grownBy_trans (grownBy_wide HG.out _) HG2.out⟩
end Go.Proofs.YtelpkniockhjgaaGreat.Oc
