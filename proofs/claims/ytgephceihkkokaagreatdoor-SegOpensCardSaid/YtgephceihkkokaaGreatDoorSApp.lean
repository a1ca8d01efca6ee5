/-
  Append, where nothing stands in its way.
-/
import Derived.Test.YtgephceihkkokaaGreatDoorSRow
import Derived.Test.YtgephceihkkokaaGreatDoorDGoodC
import Derived.Deep.RegionHeld3
import Derived.BigRegion
import Derived.StillTailTactics
namespace Go.Proofs.YtgephceihkkokaaGreatDoor
open Go.RowKit Go.Deep
attribute [local go_sem] fr_opt

/-- A fuse that isn't lit, on a disk that isn't down. -/
structure Calm (n : Nat) (st : St) : Prop where
  good : Good n st
  lit : st.lit = false
  down : st.down = false
theorem Calm.burnE {n : Nat} {st : St} (h : Calm n st) : burnE st = 0 := by unfold Go.Proofs.YtgephceihkkokaaGreatDoor.burnE; rw [h.lit]; rfl
theorem Calm.burnS {n : Nat} {st : St} (h : Calm n st) : burnS st = st := by unfold Go.Proofs.YtgephceihkkokaaGreatDoor.burnS; rw [h.lit]; rfl
theorem Calm.createE {n : Nat} {st : St} (h : Calm n st) {nm : ByteArray} (hf : st.find nm = none) : createE st nm = 0 := by
  unfold Go.Proofs.YtgephceihkkokaaGreatDoor.createE
  rw [h.down, hf, h.burnE]
  rfl
theorem Calm.createS {n : Nat} {st : St} (h : Calm n st) {nm : ByteArray} (hf : st.find nm = none) : createS st nm = { st with fs := st.fs ++ [(nm, emptyF)] } := by
  unfold Go.Proofs.YtgephceihkkokaaGreatDoor.createS
  rw [if_neg (by rw [h.down]; simp), if_neg (by rw [hf]; simp), if_pos h.burnE, h.burnS]
theorem Calm.create {n : Nat} {st : St} (h : Calm n st) {nm : ByteArray} (hf : st.find nm = none) : Calm (n + 1) (Go.Proofs.YtgephceihkkokaaGreatDoor.createS st nm) := by
  have hg := h.good.create nm
  refine ⟨hg, ?_, ?_⟩
  · rw [h.createS hf]; exact h.lit
  · rw [h.createS hf]; exact h.down

/-- Grow, where there is room. -/
def GrowTo (w0 w : World) (b : Nat) (g : Gh) (st : St) (m : RowM) (e : Ending) (w' : World) : Prop := e = .returned (.int .i64 0) ∧ ∃ g', RowG w0 w' b g' (createS st (nameB m.head m.next.toNat)) { m with next := m.next + m.size } ∧ RowTo w b g g' w'
set_option maxHeartbeats 1000000 in
set_option maxRecDepth 100000 in
theorem grow_ok (w0 : World) (b : Nat) (g : Gh) (st : St) (m : RowM) (n : Nat) (k : Nat) (w : World) (h : RowG w0 w b g st m) (hc : Calm n st) (hn : n ≤ 1048576) (hk : (k : Int) ≤ (st.cap : Int) - st.size)
    (h0 : 0 ≤ m.next) (h1 : m.next ≤ 99999999) (h2 : 0 ≤ m.size) (h3 : m.size ≤ 4096) (hh : m.head.size ≤ 1099511627776) (hf : st.find (nameB m.head m.next.toNat) = none) :
    Calls Tryz.prog 34 #[.pointer (some ⟨b, 0, none⟩), .int .i64 k] w (GrowTo w0 w b g st m) := by
  have hD := down_any g st w h.disk
  rw [hc.down] at hD
  have hR := room_any g st w h.disk hc.good.size hc.good.cap
  obtain ⟨u, hu⟩ : ∃ u : Nat, (u : Int) = m.next := ⟨m.next.toNat, by omega⟩
  have hu2 : m.next.toNat = u := by omega
  have hN : ∀ W, Chg (fun _ => False) w W → Calls Tryz.prog 24 #[.string m.head, .int .i64 m.next] W fun e w' => e = .returned (.tuple #[.string (nameB m.head u), .bool true]) ∧ Below W.heap.size W w' := fun W hcw => by
    rw [← hu]
    exact name_ok m.head u (by omega) hh W (tab_chg h.tab hcw)
  have hC : ∀ W, RowG w0 W b g st m → Calls Tryz.prog 25 #[.pointer (some ⟨g.d, 0, none⟩), .string (nameB m.head u)] W (OpTo g 0 (createS st (nameB m.head u)) W) := fun W hW => by
    have := create_any g st (nameB m.head u) W hW.disk (by rw [nameB_size]; unfold maxLen; omega) hc.good.fuse (by have := hc.good.len; omega)
    rwa [hc.createE (by rw [← hu2]; exact hf)] at this
  have hcap : IntKind.i64.wrap (m.next + m.size) = m.next + m.size := IntWalk.i64_in _ (by omega)
  obtain ⟨rm, hrm⟩ : ∃ rm : Int, rm = (st.cap : Int) - st.size := ⟨_, rfl⟩
  rw [← hrm] at hR hk
  obtain ⟨c0, c1, c2, c3, c4, c5, c6, c7, hz⟩ := h.row.cell
  obtain ⟨head, size, begin_, end_, next, synced, touched⟩ := m
  simp only at *
  have HD := Lib.hid hD
  have HR := Lib.hid hR
  have HN := Lib.hid hN
  have HC := Lib.hid hC
  have H := Lib.hid h
  have HU := Lib.hid hu2
  have HUN := Lib.hid hu
  clear hD hR hN hC h hu hu2 hz c3 c4 c6 c7 hc hf hrm
  have hkr : ¬ rm < (k : Int) := by omega
  go_enter Tryz.func34, Tryz.ntmps34
  go_wp2_with (go_at_call 31; refine HD.out.mono ?_; rintro e wx ⟨rfl, rfl⟩)
  go_wp2_with (go_at_call 53; refine HR.out.mono ?_)
  rintro e wx ⟨rfl, q, rfl⟩
  obtain ⟨W1, hW1⟩ : ∃ W, W = w.drewN q := ⟨_, rfl⟩
  have hcw1 : Chg (fun _ => False) w W1 := hW1 ▸ (Chg.refl _ _).drewN q
  have k0 := hcw1.cell c0 (fun x => x)
  have k1 := hcw1.cell c1 (fun x => x)
  have k5 := hcw1.cell c5 (fun x => x)
  have HCW := Lib.hid hcw1
  rw [← hW1]
  clear c0 c1 c2 c5 hW1 hcw1
  go_wp2_with fail
  go_region_held3 (fun w' => w'.cell? ⟨b, 1, none⟩ = some (.string head) ∧ w'.cell? ⟨b, 5, none⟩ = some (.int .i64 next))
    (first | exact ⟨k1, k5⟩ | go_keep)
    (first
      | (go_at_call 24
         ((with_reducible refine (HN.out _ ?_).mono ?_))
         · repeat (first | exact HCW.out | with_reducible refine Chg.drew ?_ | with_reducible refine Chg.drewN ?_ _)
         rintro e w5 ⟨rfl, hb5⟩
         have k1 := (Chg.of_below (S := fun _ => False) hb5).cell (p := ⟨b, 1, none⟩) k1 (fun x => x)
         have k5 := (Chg.of_below (S := fun _ => False) hb5).cell (p := ⟨b, 5, none⟩) k5 (fun x => x)
         have HB5 := Lib.hid hb5
         clear hb5))
  have hcw5 : Chg (fun _ => False) w w5 := HCW.out.trans ((Chg.refl _ _).drew.trans (Chg.of_below HB5.out) (fun _ _ x => x)) (fun _ _ x => x)
  have hg5 := H.out.new hcw5
  have HG5 := Lib.hid hg5
  have HCW5 := Lib.hid hcw5
  obtain ⟨c0, c1, c2, c3, c4, c5, c6, c7, hz⟩ := hg5.row.cell
  simp only at c1 c2 c3 c4 c5 c6 c7
  clear hg5 hcw5 hz k0 k1 k5 c1 c2 c3 c4 c5 c6 c7
  go_wp2_with (go_at_call 25; refine (HC.out _ (by first | exact HG5.out | exact HG5.out.drew)).mono ?_)
  rintro e w6 ⟨rfl, g6, hd6, ht6⟩
  have h6 : RowG w0 w6 b g6 (createS st (nameB head u)) ⟨head, size, begin_, end_, next, synced, touched⟩ ∧ RowTo w b g g6 w6 := by
    have h7 := (by first | exact HG5.out.op hd6 ht6 | exact HG5.out.drew.op hd6 ht6 : RowG w0 w6 b g6 (createS st (nameB head u)) ⟨head, size, begin_, end_, next, synced, touched⟩ ∧ _)
    exact ⟨h7.1, (RowTo.new b g (by first | exact HCW5.out | exact HCW5.out.drew)).trans h7.2⟩
  obtain ⟨c0, c1, c2, c3, c4, c5, c6, c7, hz⟩ := h6.1.row.cell
  have z5 := hz 5
  simp only at c1 c2 c3 c4 c5 c6 c7
  have H6 := Lib.hid h6
  clear h6 hd6 ht6 hz
  go_wp2_with fail
  go_still_tail 11, (by kernel_rfl)
  change wpList _ _ _ _ _ w6.drew
  have h7 := H6.out.1.drew
  have H7 := Lib.hid h7
  clear c0 c1 c2 c3 c4 c5 c6 c7 z5
  obtain ⟨c0, c1, c2, c3, c4, c5, c6, c7, hz⟩ := h7.row.cell
  have z5 := hz 5
  simp only at c1 c2 c3 c4 c5 c6 c7
  clear h7 hz
  go_wp2_with fail
  go_ret
  have h8 := H6.out.1.set 5 (.int .i64 (next + size)) ⟨head, size, begin_, end_, next + size, synced, touched⟩ rfl
  refine ⟨rfl, g6, ?_, H6.out.2.trans (h8.2.trans (RowTo.new b g6 (Chg.refl _ _).drew))⟩
  show RowG w0 _ b g6 (createS st (nameB head next.toNat)) ⟨head, size, begin_, end_, next + size, synced, touched⟩
  rw [HU.out]
  exact h8.1.drew
end Go.Proofs.YtgephceihkkokaaGreatDoor
