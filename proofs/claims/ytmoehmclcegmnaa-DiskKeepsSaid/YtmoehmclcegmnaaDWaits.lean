/-
  The contract of Waits.
-/
import Derived.Test.YtmoehmclcegmnaaDRename
namespace Go.Proofs.Ytmoehmclcegmnaa
open Go.RowKit Go.Deep

def waitsE (es : List Ent) : Nat := (es.map fun e => e.f.writes.length).sum
def St.waits (st : St) : Nat := (st.fs.map fun p => p.2.writes.length).sum
theorem waits_eq {w : World} {g : Gh} {st : St} (h : DiskAt w g st) : waitsE g.es = st.waits := by
  unfold waitsE St.waits
  rw [← h.fs, List.map_map]
  rfl
theorem waitsE_perm {a b : List Ent} (h : a.Perm b) : waitsE a = waitsE b := (h.map _).sum_nat
theorem waitsE_append (a b : List Ent) : waitsE (a ++ b) = waitsE a + waitsE b := by simp [waitsE]

/-- How many are to come. -/
def toCome (mb : Option Nat) (w : World) (r : Nat) : Nat := match mb with | none => 0 | some m => w.rangeLeft m r
theorem RangeIn.toCome {w : World} {m r : Nat} {es vis rem : List Ent} {cnt : Nat} (h : RangeIn w (some m) r es vis rem cnt) : toCome (some m) w r = cnt := by
  obtain ⟨_, _, l, left, hr, _⟩ := h
  exact hr.left_eq
theorem RangeIn.perm {w : World} {mb : Option Nat} {r : Nat} {es vis rem : List Ent} {cnt : Nat} (h : RangeIn w mb r es vis rem cnt) : (vis ++ rem).Perm es := by
  cases mb with
  | none => obtain ⟨rfl, rfl, rfl, _⟩ := h; exact List.Perm.refl _
  | some m => exact h.2.1

set_option maxHeartbeats 1000000 in
set_option maxRecDepth 100000 in
theorem waits_any (g : Gh) (st : St) (w : World) (h : DiskAt w g st) (hb : st.waits ≤ 1099511627776) :
    Calls Try.prog 17 #[.pointer (some ⟨g.d, 0, none⟩)] w fun e w' => e = .returned (.int .i64 st.waits) ∧ Below w.heap.size w w' := by
  have c6 := h.cells.2.2.2.2.2.2.1
  have HG := Lib.hid h
  obtain ⟨tot, htot⟩ : ∃ n, n = st.waits := ⟨_, rfl⟩
  rw [← htot] at hb ⊢
  have HW : Hid (waitsE g.es = tot) := (waits_eq h).trans htot.symm
  obtain ⟨R, hR⟩ : ∃ R, R = w.heap.size := ⟨_, rfl⟩
  have HR := Lib.hid hR
  clear h htot
  go_enter Try.func17, Try.ntmps17
  go_wp2_with (at_range; refine wpList_range_ents rfl _ rfl g.mb g.es rfl HG.out.map ?_; intro w0 cnt0 hrg0 hg0 hs0)
  rw [← hR] at hrg0 ⊢
  go_frame
  have HRG := Lib.hid hrg0
  have HG0 := Lib.hid hg0
  clear hrg0 hg0 hs0 hR
  go_loopw [3, 5] (fun n _ wr => ∃ vis rem cnt, RangeIn wr g.mb R g.es vis rem cnt ∧ Below w.heap.size w wr ∧ n = .int .i64 (waitsE vis)) (fun _ _ wr => toCome g.mb wr R)
  case atStart => exact ⟨[], _, _, HRG.out, below_grown (Below.refl _ _) HG0.out (Nat.le_refl _), rfl⟩
  case round =>
    obtain ⟨vis, rem, cnt, hrg, hbl, rfl⟩ := hrel
    have HRG1 := Lib.hid hrg
    have HBL := Lib.hid hbl
    clear hrg hbl HRG
    go_wp2_with (at_next; refine wpList_next_ents rfl _ rfl g.mb R g.es vis rem cnt rfl HRG1.out ?cd ?cm)
    case cd =>
      intro hrem
      have hv : Hid (waitsE vis = tot) := by
        have := HRG1.out
        rw [hrem] at this
        exact (waitsE_perm this.done).trans HW.out
      clear hrem
      go_wp2_with fail
      go_ret
      exact ⟨ret_of (by rw [hv.out]), HBL.out⟩
    case cm =>
      intro e r1 r2 w2 cnt2 hrem hmb hrg2 hlt hg2 hs2 hen
      obtain ⟨m, hm⟩ : ∃ m, g.mb = some m := by
        cases hq : g.mb with
        | none => exact absurd hq hmb
        | some m => exact ⟨m, rfl⟩
      have hp := HRG1.out.perm
      rw [hrem] at hp
      have hem : e ∈ g.es := hp.mem_iff.1 (List.mem_append_right _ (List.mem_append_right _ (List.mem_cons_self ..)))
      have hbl2 : Below w.heap.size w w2 := below_grown' HBL.out hg2 (Nat.le_refl _) (by rw [HR.out]; exact Nat.le_refl _)
      have hE : EntAt w2 e := (HG.out.ents e hem).chg (Chg.of_below (S := fun _ => False) hbl2) (fun _ _ x => x)
      obtain ⟨p, c, hv⟩ := hE.writes.slice
      have q2 := hE.cells.2.2.1
      rw [hv] at q2
      obtain ⟨l, hl⟩ : ∃ l, l = e.f.writes.length := ⟨_, rfl⟩
      rw [← hl] at q2
      have hsum : waitsE vis + l ≤ tot := by
        have h1 := waitsE_perm hp
        rw [waitsE_append, waitsE_append, HW.out] at h1
        have h2 : waitsE (e :: r2) = l + waitsE r2 := by rw [hl]; rfl
        omega
      obtain ⟨sv, hsv⟩ : ∃ s, s = waitsE vis := ⟨_, rfl⟩
      rw [← hsv] at hsum ⊢
      have hnew : waitsE (vis ++ [e]) = sv + l := by rw [waitsE_append, hsv, hl]; rfl
      have hme : toCome g.mb w2 R < toCome g.mb wr R := by
        rw [hm] at hrg2 ⊢
        have h1 := hrg2.toCome
        have h2 := HRG1.out
        rw [hm] at h2
        rw [h1, h2.toCome]
        exact hlt
      have HNEW := Lib.hid hnew
      have HRG2 := Lib.hid hrg2
      have HBL2 := Lib.hid hbl2
      have HME := Lib.hid hme
      have HM := Lib.hid hm
      have HSV := Lib.hid hsv
      clear hp hrem hmb hrg2 hlt hg2 hs2 hem hbl2 hE hv hl hnew hme hm hsv HRG1 HBL
      go_wp2_with fail
      refine ⟨⟨vis ++ [e], r1 ++ r2, cnt2, HRG2.out, HBL2.out, ?_⟩, HME.out⟩
      rw [HNEW.out]
      rfl
end Go.Proofs.Ytmoehmclcegmnaa
