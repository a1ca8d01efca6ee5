/-
  A row on a disk without files of its head.
-/
import Derived.Test.YtgephceihkkokaaGreatDoorSRow
import Derived.Test.YtgephceihkkokaaGreatDoorDGoodC
import Derived.Deep.RegionHeld3
import Derived.BigRegion
namespace Go.Proofs.YtgephceihkkokaaGreatDoor
open Go.RowKit Go.Deep
attribute [local go_sem] fr_opt

set_option maxRecDepth 100000 in
theorem taking_any (b : Nat) (w : World) : Calls Tryz.prog 63 #[.pointer (some ⟨b, 0, none⟩)] w fun e w' =>
    e = .returned (.func (.func 85) #[] #[.pointer (some ⟨w.heap.size, 0, none⟩), .pointer (some ⟨w.heap.size + 1, 0, none⟩)]) ∧ w' = (w.alloc (.cells #[.pointer (some ⟨b, 0, none⟩)] 26)).alloc (.cells #[.bool true] 4) := by
  go_enter Tryz.func63, Tryz.ntmps63
  go_wp2_with fail
  go_ret
  exact ⟨rfl, rfl⟩

/-- No file's name begins with the head. -/
def NoneOf (head : ByteArray) (g : Gh) : Prop := ∀ e ∈ g.es, Lib.hasPrefix e.name.data.toList head.data.toList = false
def ListNone (w : World) (e : Ending) (w' : World) : Prop := ∃ p c, e = .returned (.slice p 0 c) ∧ Below w.heap.size w w'
theorem list_none (g : Gh) (st : St) (head : ByteArray) (hn : NoneOf head g) (hl : st.fs.length ≤ 1099511627776) (w : World) (h : DiskAt w g st) :
    Calls Tryz.prog 17 #[.pointer (some ⟨g.d, 0, none⟩), .string head] w (ListNone w) := by
  refine (list_any g st head w h hl).mono ?_
  rintro e w' ⟨v, vis, rfl, hp, ho, hb⟩
  have h0 : begins head vis = [] := by
    unfold begins
    rw [List.map_eq_nil_iff, List.filter_eq_nil_iff]
    intro e he
    rw [hn e (hp.mem_iff.1 he)]
    simp
  rw [h0] at ho
  rcases ho.2 with ⟨e1, _⟩ | ⟨g', cap, cur, e1, _⟩
  · exact ⟨none, 0, by rw [e1], hb⟩
  · exact ⟨_, _, by rw [e1]; rfl, hb⟩

set_option maxHeartbeats 1000000 in
set_option maxRecDepth 100000 in
theorem gather_none (b : Nat) (g : Gh) (st : St) (m : RowM) (w : World) (hr : RowAt w b g.d m) (hd : DiskAt w g st) (hn : NoneOf m.head g) (hl : st.fs.length ≤ 1099511627776) :
    Calls Tryz.prog 32 #[.pointer (some ⟨b, 0, none⟩)] w fun e w' => e = .returned (.slice none 0 0) ∧ Below w.heap.size w w' := by
  have hL : ∀ W, Chg (fun _ => False) w W → Calls Tryz.prog 17 #[.pointer (some ⟨g.d, 0, none⟩), .string m.head] W (ListNone W) := fun W hc => list_none g st m.head hn hl W (hd.new hc)
  obtain ⟨c0, c1, c2, c3, c4, c5, c6, c7, hz⟩ := hr.cell
  obtain ⟨W1, hW1⟩ : ∃ W, W = (w.alloc (.cells #[.pointer (some ⟨b, 0, none⟩)] 26)).alloc (.cells #[.bool true] 4) := ⟨_, rfl⟩
  have hb1 : Below w.heap.size w W1 := by rw [hW1]; exact ((Below.refl _ _).alloc (Nat.le_refl _) _).alloc (by simp) _
  have k0 := (Chg.of_below (S := fun _ => False) hb1).cell c0 (fun x => x)
  have k1 := (Chg.of_below (S := fun _ => False) hb1).cell c1 (fun x => x)
  have HL := Lib.hid hL
  have HW1 := Lib.hid hW1
  have HB1 := Lib.hid hb1
  clear hL hd hr hz c0 c1 c2 c3 c4 c5 c6 c7 hb1
  go_enter Tryz.func32, Tryz.ntmps32
  go_wp2_with (go_at_call 63; refine (taking_any b _).mono ?_)
  rintro e wx ⟨rfl, hwx⟩
  rw [← hW1] at hwx
  subst hwx
  clear hW1
  go_wp2_with fail
  go_region_held3 (fun w' => w'.cell? ⟨b, 0, none⟩ = some (.pointer (some ⟨g.d, 0, none⟩)) ∧ w'.cell? ⟨b, 1, none⟩ = some (.string m.head))
    (first | exact ⟨k0, k1⟩ | go_keep)
    (first
      | (go_at_call 17
         ((with_reducible refine (HL.out _ ?_).mono ?_))
         · repeat (first | exact Chg.of_below HB1.out | with_reducible refine Chg.drew ?_ | with_reducible refine Chg.drewN ?_ _)
         rintro e w5 ⟨p, c, rfl, hb5⟩
         have k0 := (Chg.of_below (S := fun _ => False) hb5).cell (p := ⟨b, 0, none⟩) k0 (fun x => x)
         have k1 := (Chg.of_below (S := fun _ => False) hb5).cell (p := ⟨b, 1, none⟩) k1 (fun x => x)
         have HB5 := Lib.hid hb5
         clear hb5))
  go_wp2_with fail
  go_loopw [4, 6, 7, 8, 21] (fun r _ _ _ i wr => r = .slice none 0 0 ∧ i = .int .i64 0 ∧ Below w.heap.size w wr) (fun _ _ _ _ _ _ => 0)
  case atStart =>
    refine ⟨rfl, rfl, ?_⟩
    have hs := HB1.out.size
    refine HB1.out.trans ?_
    have h5 := HB5.out.mono hs
    exact ⟨h5.os, h5.tape, h5.output, h5.size, h5.block⟩
  case round =>
    obtain ⟨rfl, rfl, hb⟩ := hrel
    go_wp2_with fail
    go_ret
    exact ⟨rfl, hb⟩

/-- What is opened. -/
def newRow (head : ByteArray) (size : Int) : RowM := ⟨head, size, 0, 0, 0, 0, 0⟩
def OpenTo (w0 : World) (g : Gh) (st : St) (m : RowM) (w : World) (e : Ending) (w' : World) : Prop :=
  ∃ b, e = .returned (.tuple #[.pointer (some ⟨b, 0, none⟩), .int .i64 0]) ∧ w.heap.size ≤ b ∧ RowG w0 w' b g st m ∧ Chg (fun _ => False) w w'
set_option maxHeartbeats 1000000 in
set_option maxRecDepth 100000 in
theorem open_none (w0 : World) (g : Gh) (st : St) (head : ByteArray) (size : Int) (w : World) (hd : DiskAt w g st) (hc : Chg (fun _ => False) w0 w) (hlow : ∀ k ∈ g.fp, w0.heap.size ≤ k) (ht : Tab10 w0)
    (hn : NoneOf head g) (hl : st.fs.length ≤ 1099511627776) (hdn : st.down = false) (hs1 : 16 ≤ size) (hs2 : size ≤ 4096) :
    Calls Tryz.prog 10 #[.pointer (some ⟨g.d, 0, none⟩), .string head, .int .i64 size] w (OpenTo w0 g st (newRow head size) w) := by
  have hD := down_any g st w hd
  rw [hdn] at hD
  obtain ⟨W1, hW1⟩ : ∃ W, W = w.alloc (.cells ((newRow head size).cells g.d) 72) := ⟨_, rfl⟩
  have hc1 : Chg (fun _ => False) w W1 := hW1 ▸ Chg.alloc _ (Chg.refl _ _) _
  have hd1 := hd.new hc1
  have hr1 : RowAt W1 w.heap.size g.d (newRow head size) := by unfold RowAt; rw [hW1]; exact heap_alloc_new w _
  have hg1 : RowG w0 W1 w.heap.size g st (newRow head size) := ⟨hd1, hr1, fun hx => (by have := hd.lt _ hx; omega), hc.trans hc1 (fun _ _ x => x), hlow, hc.size, ht⟩
  have hG := gather_none w.heap.size g st (newRow head size) W1 hr1 hd1 hn hl
  have HD := Lib.hid hD
  have HG := Lib.hid hG
  have HG1 := Lib.hid hg1
  have HW1 := Lib.hid hW1
  have HC1 := Lib.hid hc1
  clear hD hG hg1 hr1 hd1 hc1 hd hdn
  go_enter Tryz.func10, Tryz.ntmps10
  go_wp2_with (go_at_call 31; refine HD.out.mono ?_; rintro e wx ⟨rfl, rfl⟩)
  unfold newRow RowM.cells at hW1
  simp only at hW1
  rw [← hW1]
  go_wp2_with (go_at_call 32; refine HG.out.mono ?_)
  rintro e w2 ⟨rfl, hb2⟩
  have hg2 := HG1.out.new (Chg.of_below hb2)
  obtain ⟨c0, c1, c2, c3, c4, c5, c6, c7, hz⟩ := hg2.row.cell
  have z6 := hz 6
  have z7 := hz 7
  have HG2 := Lib.hid hg2
  have HB2 := Lib.hid hb2
  clear hg2 hb2 hz hW1
  simp only [newRow] at c1 c2 c3 c4 c5 c6 c7
  go_wp2_with fail
  go_region
  go_wp2_with fail
  go_ret2
  have h1 := HG2.out.set 6 (.int .i64 0) (newRow head size) rfl
  have h2 := h1.1.set 7 (.int .i64 0) (newRow head size) rfl
  have h3 : Chg (fun _ => False) w w2 := HC1.out.trans (Chg.of_below HB2.out) (fun _ _ x => x)
  have h4 : Chg (fun _ => False) w ((w2.setCell ⟨w.heap.size, 6, none⟩ (.int .i64 0)).setCell ⟨w.heap.size, 7, none⟩ (.int .i64 0)) :=
    Chg.setCell (Chg.setCell h3 (fun hx => absurd hx (Nat.lt_irrefl _)) _) (fun hx => absurd hx (Nat.lt_irrefl _)) _
  refine ⟨w.heap.size, rfl, Nat.le_refl _, ?_, ?_⟩
  · first | exact h2.1 | exact h2.1.drew | exact h2.1.drewN _
  · first | exact h4 | exact h4.drew | exact h4.drewN _
end Go.Proofs.YtgephceihkkokaaGreatDoor
