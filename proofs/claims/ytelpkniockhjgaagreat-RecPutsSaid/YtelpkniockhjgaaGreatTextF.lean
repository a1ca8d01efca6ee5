/-
  A list read: the slice has no room left.
-/
import Derived.Test.YtelpkniockhjgaaGreatText
namespace Go.Proofs.YtelpkniockhjgaaGreat.Oc
open Go.RowKit Go.Deep

def Full (v : Value) : Prop := ∃ a n, v = .slice a n n
def ListPostF (w : World) (ts : List ByteArray) (rest : ByteArray) (x : Int) (e : Ending) (w' : World) : Prop :=
  ∃ v, e = .returned (.tuple #[v, .string rest, .int .i64 x]) ∧ Strs w' w.heap.size v ts ∧ Full v ∧ w.grownBy w' none
set_option maxHeartbeats 1000000 in
theorem cutList_full (s : ByteArray) (many most : Int) (w : World) {ts : List ByteArray} {rest : ByteArray} {x : Int} (hc : listS s many most = (ts, rest, x)) : Calls Tryz.prog 97 #[.string s, .int .i64 many, .int .i64 most] w (ListPostF w ts rest x) := by
  unfold listS at hc
  obtain ⟨v, r, y, hy⟩ : ∃ v r y, numS s 1 = (v, r, y) := ⟨_, _, _, rfl⟩
  rw [hy] at hc
  have hv : v < 256 := numS_lt (n := 1) hy
  have HY := Lib.hid hy
  clear hy
  by_cases h0 : y = 0
  · subst h0
    simp only [if_true] at hc
    by_cases h1 : many < (v : Int)
    · rw [if_pos h1] at hc
      simp only [Prod.mk.injEq] at hc
      obtain ⟨rfl, rfl, rfl⟩ := hc
      go_enter Tryz.func97, Tryz.ntmps97
      go_wp2_with fail
      refine (cutNum_any _ _ _ HY.out).mono ?_
      rintro e w' ⟨rfl, k0, rfl⟩
      go_wp2_with fail
      go_ret3
      exact ⟨_, rfl, ⟨none, 0, rfl, .inl rfl⟩, ⟨none, 0, rfl⟩, grownBy_drewN _ _ _⟩
    · rw [if_neg h1] at hc
      have HC := Lib.hid hc
      clear hc
      have hmk := fun w => run_make_row' (P := Tryz.prog) 22 9 (.string ⟨#[]⟩) 16 Tryz.underlying22 (by kernel_rfl) rfl .i64 .i64 v (by omega) (by omega) w
      go_enter Tryz.func97, Tryz.ntmps97
      go_wp2_with fail
      refine (cutNum_any _ _ _ HY.out).mono ?_
      rintro e w' ⟨rfl, k0, rfl⟩
      go_wp2_with fail
      have hrow : ((w.drewN k0).alloc (.cells (madeCells #[.string ⟨#[]⟩] v) 9)).rowIs w.heap.size 9 v (fun i => .string (([] : List ByteArray).getD i ⟨#[]⟩)) :=
        (World.rowIs_made (w.drewN k0) (.string ⟨#[]⟩) v 9).congr fun i _ => by simp
      have hgr : w.grownBy ((w.drewN k0).alloc (.cells (madeCells #[.string ⟨#[]⟩] v) 9)) none := grownBy_trans (grownBy_drewN w k0 none) (World.grownBy_alloc (w.drewN k0) _ none)
      have HROW := Lib.hid hrow
      have HGR := Lib.hid hgr
      clear hrow hgr hmk
      go_loopw [10, 11, 30] (fun q z i wr => ∃ (acc : List ByteArray) (rk : ByteArray), acc.length ≤ v ∧ i = .int .i64 acc.length ∧ q = .string rk ∧ z = .int .i64 0 ∧ textsS most (v - acc.length) rk acc = (ts, rest, x) ∧ wr.rowIs w.heap.size 9 v (fun i => .string (acc.getD i ⟨#[]⟩)) ∧ w.grownBy wr none) (fun _ _ i _ => v - (intOf i).toNat)
      case atStart => exact ⟨[], r, Nat.zero_le _, rfl, rfl, rfl, HC.out, HROW.out, HGR.out⟩
      case round =>
        obtain ⟨acc, rk, hk, rfl, rfl, rfl, hres, hrow, hgr⟩ := hrel
        by_cases hlt : acc.length < v
        · obtain ⟨m, hm⟩ : ∃ m, v - acc.length = m + 1 := ⟨v - acc.length - 1, by omega⟩
          rw [hm] at hres
          simp only [textsS] at hres
          obtain ⟨t, q, z, hz⟩ : ∃ t q z, textS rk most = (t, q, z) := ⟨_, _, _, rfl⟩
          rw [hz] at hres
          have HZ := Lib.hid hz
          have HM := Lib.hid hm
          clear hz hm
          have hcell := hrow.cell hlt
          have hfree := hrow.frozen acc.length
          have HROW' := Lib.hid hrow
          have HGR' := Lib.hid hgr
          clear hrow hgr
          by_cases hz0 : z = 0
          · subst hz0
            simp only [if_true] at hres
            have HRES := Lib.hid hres
            clear hres
            go_wp2_with (go_at_call 96; refine (cutText_any _ _ _ HZ.out).mono ?_; rintro e w' ⟨rfl, k1, rfl⟩)
            refine ⟨⟨acc ++ [t], q, by simp; omega, by simp, rfl, rfl, ?_, row_snoc HROW'.out t k1, grownBy_new HGR'.out k1 (Nat.le_refl _) _⟩, by simp [intOf]; omega⟩
            rw [← HRES.out]
            congr 1
            have := HM.out
            simp; omega
          · rw [if_neg hz0] at hres
            simp only [Prod.mk.injEq] at hres
            obtain ⟨rfl, rfl, rfl⟩ := hres
            have hb : (z == 0) = false := by simpa using hz0
            clear hz0
            go_wp2_with (go_at_call 96; refine (cutText_any _ _ _ HZ.out).mono ?_; rintro e w' ⟨rfl, k1, rfl⟩)
            go_ret3
            exact ⟨_, rfl, ⟨none, 0, rfl, .inl rfl⟩, ⟨none, 0, rfl⟩, grownBy_new HGR'.out k1 (Nat.le_refl _) _⟩
        · have hl : acc.length = v := by omega
          rw [hl, Nat.sub_self] at hres
          simp only [textsS, Prod.mk.injEq] at hres
          obtain ⟨rfl, rfl, rfl⟩ := hres
          have HROW' := Lib.hid hrow
          have HGR' := Lib.hid hgr
          have HL := Lib.hid hl
          clear hrow hgr hl
          go_wp2_with fail
          go_ret3
          refine ⟨_, rfl, ⟨some ⟨w.heap.size, 0, none⟩, v, ?_, .inr ⟨_, _, rfl, Nat.le_refl _, ?_⟩⟩, ⟨_, _, rfl⟩, HGR'.out⟩
          · rw [HL.out]; rfl
          · intro i hi
            rw [Nat.zero_add]
            exact HROW'.out.cell (by rw [← HL.out]; exact hi)
  · rw [if_neg h0] at hc
    simp only [Prod.mk.injEq] at hc
    obtain ⟨rfl, rfl, rfl⟩ := hc
    have hb : (y == 0) = false := by simpa using h0
    clear h0
    go_enter Tryz.func97, Tryz.ntmps97
    go_wp2_with fail
    refine (cutNum_any _ _ _ HY.out).mono ?_
    rintro e w' ⟨rfl, k0, rfl⟩
    go_wp2_with fail
    go_ret3
    exact ⟨_, rfl, ⟨none, 0, rfl, .inl rfl⟩, ⟨none, 0, rfl⟩, grownBy_drewN _ _ _⟩

def ListsPostF (w : World) (b : Nat) (ts : List ByteArray) (s : ByteArray) (x : Int) (e : Ending) (w' : World) : Prop :=
  ∃ v, e = .returned v ∧ Full v ∧ Strs w' w.heap.size v ts ∧ Rd w' b s x ∧ w.grownBy w' (some b)
theorem list_full (b : Nat) (s : ByteArray) (many most : Int) (w : World) (h : Rd w b s 0) {ts : List ByteArray} {rest : ByteArray} {x : Int} (hc : listS s many most = (ts, rest, x)) : Calls Tryz.prog 77 #[.pointer (some ⟨b, 0, none⟩), .int .i64 many, .int .i64 most] w (ListsPostF w b ts (goS s rest x) x) := by
  have h1 := h.rest
  have H := Lib.hid h
  have HC := Lib.hid hc
  clear h hc
  go_enter Tryz.func77, Tryz.ntmps77
  go_wp2_with fail
  refine (err_any _ _ _ _ H.out).mono ?_
  rintro e w' ⟨rfl, rfl⟩
  go_wp2_with fail
  refine (cutList_full _ _ _ _ HC.out).mono ?_
  rintro e w1 ⟨v, rfl, hs, hfull, hg⟩
  have HFU := Lib.hid hfull
  clear hfull
  have HS := Lib.hid hs
  have HG := Lib.hid hg
  clear hs hg
  go_wp2_with fail
  refine (goOn_any b s rest x _ (H.out.same HG.out)).mono ?_
  rintro e w' ⟨rfl, hr, hg⟩
  have HR := Lib.hid hr
  have HG2 := Lib.hid hg
  clear hr hg
  go_wp2
  go_ret
  exact ⟨_, rfl, HFU.out, HS.out.kept HG2.out (fun k e => by cases e; exact H.out.lt), HR.out, grownBy_trans (grownBy_wide HG.out _) HG2.out⟩
end Go.Proofs.YtelpkniockhjgaaGreat.Oc
