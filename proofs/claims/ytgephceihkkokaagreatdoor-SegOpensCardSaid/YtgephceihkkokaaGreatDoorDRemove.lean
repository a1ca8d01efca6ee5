/-
  The contract of remove; the fuse's contract again.
-/
import Derived.Test.YtgephceihkkokaaGreatDoorDWrite
import Derived.StillTailTactics
namespace Go.Proofs.YtgephceihkkokaaGreatDoor
open Go.RowKit Go.Deep

def removeS (st : St) (nm : ByteArray) : St := { st with size := st.size - st.len nm, fs := dropF st.fs nm }
def RemoveTo (g : Gh) (st : St) (nm : ByteArray) (w : World) (e : Ending) (w' : World) : Prop :=
  e = .returned (.tuple #[]) ∧ DiskAt w' { g with es := without g.es nm } (removeS st nm) ∧ Gh.To w g { g with es := without g.es nm } w'

set_option maxHeartbeats 1000000 in
set_option maxRecDepth 100000 in
theorem remove_any (g : Gh) (st : St) (nm : ByteArray) (w : World) (h : DiskAt w g st) (hm : nm.size ≤ maxLen) (hl : st.len nm ≤ st.size) (hs : st.size ≤ 16777216) :
    Calls Tryz.prog 65 #[.pointer (some ⟨g.d, 0, none⟩), .string nm] w (RemoveTo g st nm w) := by
  obtain ⟨c0, c1, c2, c3, c4, c5, c6, hz⟩ := h.cells
  have z4 := hz 4
  have H := Lib.hid h
  obtain ⟨n, hn⟩ : ∃ n, n = st.len nm := ⟨_, rfl⟩
  rw [← hn] at hl
  have hc : ∀ w', DiskAt w' g st → Calls Tryz.prog 64 #[.pointer (some ⟨g.d, 0, none⟩), .string nm] w' fun e w'' => e = .returned (.int .i64 n) ∧ w' = w'' := fun w' h' => hn ▸ len_any g st nm w' h' hm
  have hw : IntKind.i64.wrap ((st.size : Int) - (n : Int)) = (st.size : Int) - n := IntWalk.i64_in _ (by omega)
  have HC := Lib.hid hc
  have HN := Lib.hid hn
  clear hz h hc hn
  go_enter Tryz.func65, Tryz.ntmps65
  go_wp2_with fail
  go_still_tail 10, (by kernel_rfl)
  still_call ((HC.out _ H.out.drew).mono fun _ _ h => ⟨h.1, h.2.symm⟩)
  repeat still_step
  refine wpStill_nil ?_
  change wpList _ _ _ _ _ w.drew
  clear c0 c1 c2 c3 c4 c5
  have hd := H.out.drew
  have hT := Gh.To.new g (Chg.refl (fun _ => False) w).drew
  generalize w.drew = w2 at hd hT ⊢
  have c4 := hd.cells.2.2.2.2.1
  have z4' := hd.cells.2.2.2.2.2.2.2 4
  have hs2 := hd.set 4 (.int .i64 ((st.size : Int) - n)) { st with size := st.size - n } rfl (by
    rw [show ((st.size : Int) - n) = ((st.size - n : Nat) : Int) by omega]; rfl)
  have e6 := hs2.1.cells.2.2.2.2.2.2.1
  have HS := Lib.hid hs2
  have HT := Lib.hid hT
  clear hd hT hs2 z4 c6
  go_wp2_with (with_reducible refine wpList_drop_ent rfl (.tmp 17) (.tmp 18) rfl g.mb g.es nm rfl rfl HS.out.1.map hm ?c1)
  case c1 =>
    intro w4 hm4 hg4
    have hd4 := HS.out.1.drop nm hm4 hg4
    have HD4 := Lib.hid hd4
    clear hd4 hm4 hg4
    go_wp2_with fail
    go_end0
    refine ⟨rfl, ?_, (HT.out.trans HS.out.2).trans HD4.out.2⟩
    have := HD4.out.1
    unfold removeS
    rw [← HN.out]
    exact this
end Go.Proofs.YtgephceihkkokaaGreatDoor
